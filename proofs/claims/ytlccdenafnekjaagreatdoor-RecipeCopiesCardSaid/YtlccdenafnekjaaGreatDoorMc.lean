/-
  What the laws of recipe rest on, part 3: the code's functions as functions on lists and trees, and what each call does.
-/
import Derived.Deep.RegionHeld3
import Derived.Deep.AppendLies
import Derived.Test.YtlccdenafnekjaaGreatDoorMb
namespace Go.Proofs.YtlccdenafnekjaaGreatDoor
open Go.RowKit
set_option linter.unusedVariables false

/-- Behind lay. -/
def LayP (w : World) (B p db o : Nat) (X L ct : List Value) (ty : TypeId) (vn vk c0 c1 c2 c3 c4 : Value) (ns : List ByteArray) (nm : ByteArray) (i a b x y dep : Nat) (tt : T) (e : Ending) (w' : World) : Prop :=
  ∃ un uk, e = .returned (.int .i64 (if 4096 < a + x ∨ 65536 < b + y ∨ 16 < dep + heightT tt then 2 else 0)) ∧
    (p = db → Has w' p (wkC c0 c1 c2 un uk ((a + x : Nat) : Int) ((b + y : Nat) : Int)) 140) ∧
    (p ≠ db → Has w' db ((X.set (o + 3) un).set (o + 4) uk) ty ∧ Has w' p (wkC c0 c1 c2 c3 c4 ((a + x : Nat) : Int) ((b + y : Nat) : Int)) 140) ∧
    w'.ownsRow B tS 1 un (ns.length + 1) ((ns.take i ++ nm :: ns.drop i).map Value.string) ∧ w'.ownsRow B tT 5 uk (ns.length + 1) (L.take (i * 5) ++ ct ++ L.drop (i * 5)) ∧
    Fr (p :: db :: (blk vn ++ blk vk)) w w' ∧ (∀ g, un.ownBlock = some g → vn.ownBlock = some g ∨ w.heap.size ≤ g) ∧ (∀ g, uk.ownBlock = some g → vk.ownBlock = some g ∨ w.heap.size ≤ g)

set_option maxRecDepth 100000 in
set_option maxHeartbeats 20000000 in
/-- Of lay, up to where the directory is changed. -/
theorem lay_w {w : World} {B p db o i dep q a b x y : Nat} {tk : Bool} {nm : ByteArray} {X L ct : List Value} {ty : TypeId} {vn vk c0 c1 c2 c3 c4 : Value} {ns : List ByteArray} {tt : T} {lv : Nat}
    (hX : Has w db X ty) (hx3 : X[o + 3]? = some vn) (hx4 : X[o + 4]? = some vk) (hn : w.ownsRow B tS 1 vn ns.length (ns.map Value.string)) (hk : w.ownsRow B tT 5 vk ns.length L)
    (hB : B ≤ w.heap.size) (hi : i ≤ ns.length) (hl : ns.length ≤ 100000) (hnd : vn.ownBlock ≠ some db) (hkd : vk.ownBlock ≠ some db) (hsh : ∃ (tk0 : UInt8) (tx0 : Bool) (a1 : Option Addr) (n1 m1 : Nat) (a2 : Option Addr) (n2 m2 : Nat) (a3 : Option Addr) (n3 m3 : Nat), ct = [.int .u8 (tk0.toNat : Int), .bool tx0, .slice a1 n1 m1, .slice a2 n2 m2, .slice a3 n3 m3]) (h1c : ∀ u ∈ ct, u.oneCell' = true) (h1L : ∀ u ∈ L, u.oneCell' = true)
    (hpp : (p = db ∧ ty = 140 ∧ o = 0 ∧ X = wkC c0 c1 c2 vn vk (a : Int) (b : Int)) ∨ (p ≠ db ∧ Has w p (wkC c0 c1 c2 c3 c4 (a : Int) (b : Int)) 140))
    (hT : ∀ W, Fr (p :: db :: (blk vn ++ blk vk)) w W → IsT W lv ct tt) (hz : sizeT tt = some (x, y)) (hN : sizeN tt ≤ 1000000) (ha : a ≤ 1000000) (hb : b ≤ 1000000) (hdep : dep ≤ 1000000) :
    Calls Tryz.prog 130 #[.pointer (some ⟨p, 0, none⟩), .agg (spC db o nm i dep tk).toArray, .agg ct.toArray] w (LayP w B p db o X L ct ty vn vk c0 c1 c2 c3 c4 ns nm i a b x y dep tt) := by
  have HXX := Lib.hid hX
  have HX3 := Lib.hid hx3
  have HX4 := Lib.hid hx4
  have HN := Lib.hid hn
  have HK := Lib.hid hk
  have HB := Lib.hid hB
  have HI := Lib.hid hi
  have HL := Lib.hid hl
  have HND := Lib.hid hnd
  have HKD := Lib.hid hkd
  have hct : ct.length = 5 := by obtain ⟨_, _, _, _, _, _, _, _, _, _, _, rfl⟩ := hsh; rfl
  have HCT := Lib.hid hct
  have HSH := Lib.hid hsh
  have H1C := Lib.hid h1c
  have H1L := Lib.hid h1L
  obtain ⟨na, nl, nc, hvn⟩ : ∃ na nl nc, vn = .slice na nl nc := by
    rcases hn.2 with ⟨rfl, _⟩ | ⟨g, cap, cur', rfl, _⟩
    · exact ⟨_, _, _, rfl⟩
    · exact ⟨_, _, _, rfl⟩
  obtain ⟨ka, kl, kc, hvk⟩ : ∃ ka kl kc, vk = .slice ka kl kc := by
    rcases hk.2 with ⟨rfl, _⟩ | ⟨g, cap, cur', rfl, _⟩
    · exact ⟨_, _, _, rfl⟩
    · exact ⟨_, _, _, rfl⟩
  have HPP := Lib.hid hpp
  have HTT := Lib.hid hT
  have HZZ := Lib.hid hz
  have HNN := Lib.hid hN
  have HBA : Hid (-1000000 ≤ (a : Int) ∧ (a : Int) ≤ 1000000) := Lib.hid ⟨by omega, by omega⟩
  have HBB : Hid (-1000000 ≤ (b : Int) ∧ (b : Int) ≤ 1000000) := Lib.hid ⟨by omega, by omega⟩
  have HDP := Lib.hid hdep
  have HI5 : Hid ((Tryz.prog.info? 37).map (·.size) = some ct.length) := Lib.hid (by rw [info5, hct])
  have hdl : Hid (db < w.heap.size) := Lib.hid hX.lt
  clear hX hx3 hx4 hn hk hB hi hl hnd hkd hsh hct h1c h1L hpp hT hz hN ha hb hdep
  go_enter Tryz.func130, Tryz.ntmps130
  go_upto_region 1 with fail
  obtain ⟨w1, hw1⟩ : ∃ w1, w1 = (w.alloc (.cells (spC db o nm i dep tk).toArray 180)).alloc (.cells ct.toArray 37) := ⟨_, rfl⟩
  have F1 : Hid (Fr [db] w w1) := Lib.hid (by rw [hw1]; exact ((Fr.refl _ _).alloc _).alloc _)
  have g1 : Has w1 w.heap.size (spC db o nm i dep tk) 180 := by rw [hw1]; exact (Has.new w _ _).alloc _
  have t1 : Has w1 (w.heap.size + 1) ct 37 := by
    have e : (w.alloc (.cells (spC db o nm i dep tk).toArray 180)).heap.size = w.heap.size + 1 := by simp
    rw [hw1, ← e]
    exact Has.new _ _ _
  have S1 : Hid (w1.heap.size = w.heap.size + 1 + 1) := Lib.hid (by rw [hw1]; simp)
  first | rw [← hw1] | skip
  have G1 := Lib.hid g1
  have T1 := Lib.hid t1
  have X1 : Hid (Has w1 db X ty) := Lib.hid (by rw [hw1]; exact (HXX.out.alloc _).alloc _)
  have N1 : Hid (w1.ownsRow B tS 1 vn ns.length (ns.map Value.string)) := Lib.hid (by rw [hw1]; exact owns_alloc (owns_alloc HN.out _) _)
  have K1 : Hid (w1.ownsRow B tT 5 vk ns.length L) := Lib.hid (by rw [hw1]; exact owns_alloc (owns_alloc HK.out _) _)
  clear hw1 g1 t1
  refine wp_region_held_drew (S := fun W => Has W w.heap.size (spC db o nm i dep tk) 180) (by kernel_rfl) G1.out.drew (fun hHeld => ?_)
  refine wpAnyH_take (i := 0) (oi := { dst := some 7, op := Op.fieldAddr 180 (Operand.tmp 4) 0, type := 0, pos := "work.go:104", after := #[], guard := none }) (v := .pointer (some ⟨w.heap.size, 0, none⟩)) rfl (by kernel_rfl) (by kernel_rfl) (by kernel_rfl) (fun _ _ _ h => h)
    (Or.inl ⟨by rfl, by intro w hSw;  clear hSw; go_simp⟩) hHeld ?_
  try simp only [Act.put, List.setIfInBounds_toArray, List.set_cons_zero, List.set_cons_succ]
  refine wpAnyH_take (i := 1) (oi := { dst := some 8, op := Op.load 94 (Operand.tmp 7), type := 94, pos := "work.go:104", after := #[{ on := 0, ground := Ground.data }], guard := none }) (v := .pointer (some ⟨db, o, none⟩)) rfl (by kernel_rfl) (by kernel_rfl) (by kernel_rfl) (fun _ _ _ h => h)
    (Or.inl ⟨by rfl, by intro w hSw; have hq := Has.cellAt hSw (i := 0) rfl; clear hSw; go_simp⟩) hHeld ?_
  try simp only [Act.put, List.setIfInBounds_toArray, List.set_cons_zero, List.set_cons_succ]
  refine wpAnyH_take (i := 2) (oi := { dst := some 9, op := Op.fieldAddr 180 (Operand.tmp 4) 0, type := 0, pos := "work.go:104", after := #[], guard := none }) (v := .pointer (some ⟨w.heap.size, 0, none⟩)) rfl (by kernel_rfl) (by kernel_rfl) (by kernel_rfl) (fun _ _ _ h => h)
    (Or.inl ⟨by rfl, by intro w hSw;  clear hSw; go_simp⟩) hHeld ?_
  try simp only [Act.put, List.setIfInBounds_toArray, List.set_cons_zero, List.set_cons_succ]
  refine wpAnyH_take (i := 3) (oi := { dst := some 10, op := Op.load 94 (Operand.tmp 9), type := 94, pos := "work.go:104", after := #[{ on := 2, ground := Ground.data }], guard := none }) (v := .pointer (some ⟨db, o, none⟩)) rfl (by kernel_rfl) (by kernel_rfl) (by kernel_rfl) (fun _ _ _ h => h)
    (Or.inl ⟨by rfl, by intro w hSw; have hq := Has.cellAt hSw (i := 0) rfl; clear hSw; go_simp⟩) hHeld ?_
  try simp only [Act.put, List.setIfInBounds_toArray, List.set_cons_zero, List.set_cons_succ]
  refine wpAnyH_take (i := 4) (oi := { dst := some 11, op := Op.nilCheck (Operand.tmp 10), type := 0, pos := "work.go:104", after := #[{ on := 3, ground := Ground.data }], guard := none }) (v := .pointer (some ⟨db, o, none⟩)) rfl (by kernel_rfl) (by kernel_rfl) (by kernel_rfl) (fun _ _ _ h => h)
    (Or.inl ⟨by rfl, by intro w hSw;  clear hSw; go_simp⟩) hHeld ?_
  try simp only [Act.put, List.setIfInBounds_toArray, List.set_cons_zero, List.set_cons_succ]
  refine wpAnyH_take (i := 5) (oi := { dst := some 12, op := Op.fieldAddr 37 (Operand.tmp 11) 3, type := 0, pos := "work.go:104", after := #[{ on := 4, ground := Ground.data }], guard := none }) (v := .pointer (some ⟨db, o + 3, none⟩)) rfl (by kernel_rfl) (by kernel_rfl) (by kernel_rfl) (fun _ _ _ h => h)
    (Or.inl ⟨by rfl, by intro w hSw;  clear hSw; go_simp⟩) hHeld ?_
  try simp only [Act.put, List.setIfInBounds_toArray, List.set_cons_zero, List.set_cons_succ]
  refine wpAnyH_take (i := 7) (oi := { dst := some 14, op := Op.fieldAddr 180 (Operand.tmp 4) 2, type := 0, pos := "work.go:104", after := #[], guard := none }) (v := .pointer (some ⟨w.heap.size, 2, none⟩)) rfl (by kernel_rfl) (by kernel_rfl) (by kernel_rfl) (fun _ _ _ h => h)
    (Or.inl ⟨by rfl, by intro w hSw;  clear hSw; go_simp⟩) hHeld ?_
  try simp only [Act.put, List.setIfInBounds_toArray, List.set_cons_zero, List.set_cons_succ]
  refine wpAnyH_take (i := 8) (oi := { dst := some 15, op := Op.load 3 (Operand.tmp 14), type := 3, pos := "work.go:104", after := #[{ on := 7, ground := Ground.data }], guard := none }) (v := .int .i64 (i : Int)) rfl (by kernel_rfl) (by kernel_rfl) (by kernel_rfl) (fun _ _ _ h => h)
    (Or.inl ⟨by rfl, by intro w hSw; have hq := Has.cellAt hSw (i := 2) rfl; clear hSw; go_simp⟩) hHeld ?_
  try simp only [Act.put, List.setIfInBounds_toArray, List.set_cons_zero, List.set_cons_succ]
  refine wpAnyH_take (i := 9) (oi := { dst := some 16, op := Op.fieldAddr 180 (Operand.tmp 4) 1, type := 0, pos := "work.go:104", after := #[], guard := none }) (v := .pointer (some ⟨w.heap.size, 1, none⟩)) rfl (by kernel_rfl) (by kernel_rfl) (by kernel_rfl) (fun _ _ _ h => h)
    (Or.inl ⟨by rfl, by intro w hSw;  clear hSw; go_simp⟩) hHeld ?_
  try simp only [Act.put, List.setIfInBounds_toArray, List.set_cons_zero, List.set_cons_succ]
  refine wpAnyH_take (i := 10) (oi := { dst := some 17, op := Op.load 9 (Operand.tmp 16), type := 9, pos := "work.go:104", after := #[{ on := 9, ground := Ground.data }], guard := none }) (v := .string nm) rfl (by kernel_rfl) (by kernel_rfl) (by kernel_rfl) (fun _ _ _ h => h)
    (Or.inl ⟨by rfl, by intro w hSw; have hq := Has.cellAt hSw (i := 1) rfl; clear hSw; go_simp⟩) hHeld ?_
  try simp only [Act.put, List.setIfInBounds_toArray, List.set_cons_zero, List.set_cons_succ]
  refine wpAnyH_ready (rs := [6, 11]) (by kernel_rfl) (by simp) ?_
  refine AllReadyH.cons (o := { dst := some 13, op := Op.load 34 (Operand.tmp 12), type := 34, pos := "work.go:104", after := #[{ on := 5, ground := Ground.data }], guard := none }) rfl (fun K hK => ?_) (AllReadyH.cons (o := { dst := some 18, op := Op.buildSlice 34 1 #[(0, Operand.tmp 17)], type := 34, pos := "work.go:104", after := #[{ on := 10, ground := Ground.data }], guard := none }) rfl (fun K hK => ?_) AllReadyH.nil)
  · have q3 : World.cell? w1.drew ⟨db, o + 3, none⟩ = some vn := Has.cellAt (X1.out.drew) HX3.out
    go_simp
    clear q3
    refine hK.out _ _ (G1.out.drew) (fun hHw1 => ?_)
    clear hK K hHeld
    try simp only [Act.put, List.setIfInBounds_toArray, List.set_cons_zero, List.set_cons_succ]
    refine wpAnyH_ready (rs := [11]) (by kernel_rfl) (by simp) ?_
    refine AllReadyH.cons (o := { dst := some 18, op := Op.buildSlice 34 1 #[(0, Operand.tmp 17)], type := 34, pos := "work.go:104", after := #[{ on := 10, ground := Ground.data }], guard := none }) rfl (fun K hK => ?_) AllReadyH.nil
    go_simp
    obtain ⟨w2, hw2⟩ : ∃ w2, w2 = (w1.alloc (.cells #[.string nm] 9)).drew := ⟨_, rfl⟩
    have X2 : Hid (Has w2 db X ty) := Lib.hid (by rw [hw2]; exact (X1.out.alloc _).drew)
    have G2 : Hid (Has w2 w.heap.size (spC db o nm i dep tk) 180) := Lib.hid (by rw [hw2]; exact (G1.out.alloc _).drew)
    have T2 : Hid (Has w2 (w.heap.size + 1) ct 37) := Lib.hid (by rw [hw2]; exact (T1.out.alloc _).drew)
    have N2 : Hid (w2.ownsRow B tS 1 vn ns.length (ns.map Value.string)) := Lib.hid (by rw [hw2]; exact owns_drew (owns_alloc N1.out _))
    have K2 : Hid (w2.ownsRow B tT 5 vk ns.length L) := Lib.hid (by rw [hw2]; exact owns_drew (owns_alloc K1.out _))
    have V2 : Hid (Has w2 (w.heap.size + 1 + 1) [.string nm] 9) := Lib.hid (by rw [hw2, ← S1.out]; exact (Has.new w1 _ _).drew)
    have F2 : Hid (Fr [db] w w2) := Lib.hid (by rw [hw2]; exact (F1.out.alloc _).drew)
    have S2 : Hid (w2.heap.size = w.heap.size + 1 + 1 + 1) := Lib.hid (by rw [hw2]; simp [S1.out])
    first | rw [← hw2] | skip
    clear hw2
    refine hK.out _ _ (G2.out) (fun hHw2 => ?_)
    clear hK K hHw1
    try simp only [Act.put, List.setIfInBounds_toArray, List.set_cons_zero, List.set_cons_succ]
    refine wpAnyH_ready (rs := [12]) (by kernel_rfl) (by simp) ?_
    refine AllReadyH.cons (o := { dst := some 19, op := Op.call { callee := Callee.value (Operand.func 140), args := #[Operand.tmp 13, Operand.tmp 15, Operand.tmp 18], argTypes := #[34, 3, 34] }, type := 34, pos := "work.go:104", after := #[{ on := 6, ground := Ground.data }, { on := 8, ground := Ground.data }, { on := 11, ground := Ground.data }], guard := none }) rfl (fun K hK => ?_) AllReadyH.nil
    go_simp
    have hcl := insS_any N2.out (by have := S2.out; have := HB.out; omega) (by have := HL.out; omega) HI.out (vb := w1.heap.size) (by rw [S1.out]; exact V2.out) (fun e => by have := blk_lt N1.out e; omega)
    rw [hvn] at hcl
    refine hcl.mono ?_
    rw [← hvn]
    rintro e w3 ⟨VN0, rfl, ho3, hg3, hb3⟩
    obtain ⟨va, vl, vc, rfl⟩ := slice_owned ho3
    have N3 := Lib.hid ho3
    have K3 : Hid (w3.ownsRow B tT 5 vk ns.length L) := Lib.hid (owns_grown3 K2.out N2.out (by decide) hg3)
    have GR3 : Hid (Fr (blk vn) w2 w3) := Lib.hid (Fr.of_grown hg3 (fun g h => mem_blk.2 h))
    have HVN : Hid (∀ g, (Value.slice va vl vc).ownBlock = some g → vn.ownBlock = some g ∨ w2.heap.size ≤ g) := Lib.hid hb3
    have S2L : Hid (w.heap.size ≤ w2.heap.size) := Lib.hid (by have := S2.out; omega)
    have X3 : Hid (Has w3 db X ty) := Lib.hid (has_fr X2.out GR3.out (fun h => HND.out (mem_blk.1 h)))
    have NB : Hid (∀ g, g < w.heap.size + 1 + 1 → w.heap.size ≤ g → g ∉ blk vn) := Lib.hid (fun g h1 h2 h3 => by have := blk_lt HN.out (mem_blk.1 h3); omega)
    have G3 : Hid (Has w3 w.heap.size (spC db o nm i dep tk) 180) := Lib.hid (has_fr G2.out GR3.out (NB.out _ (by omega) (by omega)))
    have T3 : Hid (Has w3 (w.heap.size + 1) ct 37) := Lib.hid (has_fr T2.out GR3.out (NB.out _ (by omega) (by omega)))
    have F3 : Hid (Fr (db :: blk vn) w w3) := Lib.hid ((F2.out.mono (S' := db :: blk vn) (fun g hg _ => by simp only [List.mem_cons, List.not_mem_nil, or_false] at hg; simp [hg])).trans GR3.out (fun g hg _ => by simp [hg]))
    clear ho3 hg3 hb3 hcl
    go_wp2_with fail
    refine hK.out _ _ (G3.out) (fun hHw3 => ?_)
    clear hK K hHw2
    try simp only [Act.put, List.setIfInBounds_toArray, List.set_cons_zero, List.set_cons_succ]
    refine wpAnyH_take (i := 13) (oi := { dst := some 20, op := Op.nilCheck (Operand.tmp 8), type := 0, pos := "work.go:104", after := #[{ on := 1, ground := Ground.data }, { on := 0, ground := Ground.phase }, { on := 1, ground := Ground.phase }, { on := 2, ground := Ground.phase }, { on := 3, ground := Ground.phase }, { on := 4, ground := Ground.phase }, { on := 5, ground := Ground.phase }, { on := 6, ground := Ground.phase }, { on := 7, ground := Ground.phase }, { on := 8, ground := Ground.phase }, { on := 9, ground := Ground.phase }, { on := 10, ground := Ground.phase }, { on := 11, ground := Ground.phase }, { on := 12, ground := Ground.phase }], guard := none }) (v := .pointer (some ⟨db, o, none⟩)) rfl (by kernel_rfl) (by kernel_rfl) (by kernel_rfl) (fun _ _ _ h => h)
      (Or.inl ⟨by rfl, by intro w hSw;  clear hSw; go_simp⟩) hHw3 ?_
    try simp only [Act.put, List.setIfInBounds_toArray, List.set_cons_zero, List.set_cons_succ]
    refine wpAnyH_take (i := 14) (oi := { dst := some 21, op := Op.fieldAddr 37 (Operand.tmp 20) 3, type := 0, pos := "work.go:104", after := #[{ on := 13, ground := Ground.data }, { on := 0, ground := Ground.phase }, { on := 1, ground := Ground.phase }, { on := 2, ground := Ground.phase }, { on := 3, ground := Ground.phase }, { on := 4, ground := Ground.phase }, { on := 5, ground := Ground.phase }, { on := 6, ground := Ground.phase }, { on := 7, ground := Ground.phase }, { on := 8, ground := Ground.phase }, { on := 9, ground := Ground.phase }, { on := 10, ground := Ground.phase }, { on := 11, ground := Ground.phase }, { on := 12, ground := Ground.phase }], guard := none }) (v := .pointer (some ⟨db, o + 3, none⟩)) rfl (by kernel_rfl) (by kernel_rfl) (by kernel_rfl) (fun _ _ _ h => h)
      (Or.inl ⟨by rfl, by intro w hSw;  clear hSw; go_simp⟩) hHw3 ?_
    try simp only [Act.put, List.setIfInBounds_toArray, List.set_cons_zero, List.set_cons_succ]
    refine wpAnyH_ready (rs := [15]) (by kernel_rfl) (by simp) ?_
    refine AllReadyH.cons (o := { dst := none, op := Op.store 34 (Operand.tmp 21) (Operand.tmp 19), type := 0, pos := "work.go:104", after := #[{ on := 14, ground := Ground.data }, { on := 12, ground := Ground.data }, { on := 12, ground := Ground.chain }, { on := 0, ground := Ground.phase }, { on := 1, ground := Ground.phase }, { on := 2, ground := Ground.phase }, { on := 3, ground := Ground.phase }, { on := 4, ground := Ground.phase }, { on := 5, ground := Ground.phase }, { on := 6, ground := Ground.phase }, { on := 7, ground := Ground.phase }, { on := 8, ground := Ground.phase }, { on := 9, ground := Ground.phase }, { on := 10, ground := Ground.phase }, { on := 11, ground := Ground.phase }, { on := 12, ground := Ground.phase }], guard := none }) rfl (fun K hK => ?_) AllReadyH.nil
    have q3 : w3.cell? ⟨db, o + 3, none⟩ = some vn := Has.cellAt X3.out HX3.out
    have f3 : w3.frozen? ⟨db, o + 3, none⟩ = false := X3.out.frozen (o + 3)
    go_simp
    clear q3 f3
    obtain ⟨w4, hw4⟩ : ∃ w4, w4 = w3.setCell ⟨db, o + 3, none⟩ (.slice va vl vc) := ⟨_, rfl⟩
    have X4 : Hid (Has w4 db (X.set (o + 3) (.slice va vl vc)) ty) := Lib.hid (by rw [hw4]; exact X3.out.set (o + 3) _)
    have ND4 : Hid ((Value.slice va vl vc).ownBlock ≠ some db) := Lib.hid (fun e => by
      rcases HVN.out db e with h | h
      · exact HND.out h
      · have := S2.out; have := hdl.out; omega)
    have N4 : Hid (w4.ownsRow B tS 1 (.slice va vl vc) (ns.length + 1) ((ns.take i ++ nm :: ns.drop i).map Value.string)) := Lib.hid (by rw [hw4]; exact owns_set2 N3.out ND4.out _ _)
    have K4 : Hid (w4.ownsRow B tT 5 vk ns.length L) := Lib.hid (by rw [hw4]; exact owns_set2 K3.out HKD.out _ _)
    have G4 : Hid (Has w4 w.heap.size (spC db o nm i dep tk) 180) := Lib.hid (by rw [hw4]; exact G3.out.setOther (a := ⟨db, o + 3, none⟩) (by have := hdl.out; show w.heap.size ≠ db; omega) _)
    have T4 : Hid (Has w4 (w.heap.size + 1) ct 37) := Lib.hid (by rw [hw4]; exact T3.out.setOther (a := ⟨db, o + 3, none⟩) (by have := hdl.out; show w.heap.size + 1 ≠ db; omega) _)
    have F4 : Hid (Fr (db :: blk vn) w w4) := Lib.hid (by rw [hw4]; exact F3.out.setCell (.inl (by simp)) _ _)
    have S4 : Hid (w.heap.size + 1 + 1 + 1 ≤ w4.heap.size) := Lib.hid (by have h1 := GR3.out.size; have h2 := S2.out; have h3 : w4.heap.size = w3.heap.size := (by rw [hw4]; simp [World.setCell]); omega)
    first | rw [← hw4] | skip
    clear hw4 X3 N3 K3 G3 T3 F3 X2 N2 K2 G2 T2 F2 V2 GR3
    refine hK.out _ _ (G4.out) (fun hHw4 => ?_)
    clear hK K hHw3
    try simp only [Act.put, List.setIfInBounds_toArray, List.set_cons_zero, List.set_cons_succ]
    refine wpAnyH_done (by kernel_rfl) ?_ _
    clear hHw4
    have X44 : Hid ((X.set (o + 3) (.slice va vl vc))[o + 4]? = some vk) := Lib.hid (by rw [List.getElem?_set, if_neg (by omega)]; exact HX4.out)
    go_upto_region 2 with fail
    refine wp_region_held_drew (S := fun W => Has W w.heap.size (spC db o nm i dep tk) 180 ∧ Has W (w.heap.size + 1) ct 37) (by kernel_rfl) ⟨G4.out.drew, T4.out.drew⟩ (fun hHeld2 => ?_)
    refine wpAnyH_take (i := 0) (oi := { dst := some 22, op := Op.fieldAddr 180 (Operand.tmp 4) 0, type := 0, pos := "work.go:105", after := #[], guard := none }) (v := .pointer (some ⟨w.heap.size, 0, none⟩)) rfl (by kernel_rfl) (by kernel_rfl) (by kernel_rfl) (fun _ _ _ h => h)
      (Or.inl ⟨by rfl, by intro w hSw;  clear hSw; go_simp⟩) hHeld2 ?_
    try simp only [Act.put, List.setIfInBounds_toArray, List.set_cons_zero, List.set_cons_succ]
    refine wpAnyH_take (i := 1) (oi := { dst := some 23, op := Op.load 94 (Operand.tmp 22), type := 94, pos := "work.go:105", after := #[{ on := 0, ground := Ground.data }], guard := none }) (v := .pointer (some ⟨db, o, none⟩)) rfl (by kernel_rfl) (by kernel_rfl) (by kernel_rfl) (fun _ _ _ h => h)
      (Or.inl ⟨by rfl, by intro w hSw; have hq := Has.cellAt hSw.1 (i := 0) rfl; clear hSw; go_simp⟩) hHeld2 ?_
    try simp only [Act.put, List.setIfInBounds_toArray, List.set_cons_zero, List.set_cons_succ]
    refine wpAnyH_take (i := 2) (oi := { dst := some 24, op := Op.fieldAddr 180 (Operand.tmp 4) 0, type := 0, pos := "work.go:105", after := #[], guard := none }) (v := .pointer (some ⟨w.heap.size, 0, none⟩)) rfl (by kernel_rfl) (by kernel_rfl) (by kernel_rfl) (fun _ _ _ h => h)
      (Or.inl ⟨by rfl, by intro w hSw;  clear hSw; go_simp⟩) hHeld2 ?_
    try simp only [Act.put, List.setIfInBounds_toArray, List.set_cons_zero, List.set_cons_succ]
    refine wpAnyH_take (i := 3) (oi := { dst := some 25, op := Op.load 94 (Operand.tmp 24), type := 94, pos := "work.go:105", after := #[{ on := 2, ground := Ground.data }], guard := none }) (v := .pointer (some ⟨db, o, none⟩)) rfl (by kernel_rfl) (by kernel_rfl) (by kernel_rfl) (fun _ _ _ h => h)
      (Or.inl ⟨by rfl, by intro w hSw; have hq := Has.cellAt hSw.1 (i := 0) rfl; clear hSw; go_simp⟩) hHeld2 ?_
    try simp only [Act.put, List.setIfInBounds_toArray, List.set_cons_zero, List.set_cons_succ]
    refine wpAnyH_take (i := 4) (oi := { dst := some 26, op := Op.nilCheck (Operand.tmp 25), type := 0, pos := "work.go:105", after := #[{ on := 3, ground := Ground.data }], guard := none }) (v := .pointer (some ⟨db, o, none⟩)) rfl (by kernel_rfl) (by kernel_rfl) (by kernel_rfl) (fun _ _ _ h => h)
      (Or.inl ⟨by rfl, by intro w hSw;  clear hSw; go_simp⟩) hHeld2 ?_
    try simp only [Act.put, List.setIfInBounds_toArray, List.set_cons_zero, List.set_cons_succ]
    refine wpAnyH_take (i := 5) (oi := { dst := some 27, op := Op.fieldAddr 37 (Operand.tmp 26) 4, type := 0, pos := "work.go:105", after := #[{ on := 4, ground := Ground.data }], guard := none }) (v := .pointer (some ⟨db, o + 4, none⟩)) rfl (by kernel_rfl) (by kernel_rfl) (by kernel_rfl) (fun _ _ _ h => h)
      (Or.inl ⟨by rfl, by intro w hSw;  clear hSw; go_simp⟩) hHeld2 ?_
    try simp only [Act.put, List.setIfInBounds_toArray, List.set_cons_zero, List.set_cons_succ]
    refine wpAnyH_take (i := 7) (oi := { dst := some 29, op := Op.fieldAddr 180 (Operand.tmp 4) 2, type := 0, pos := "work.go:105", after := #[], guard := none }) (v := .pointer (some ⟨w.heap.size, 2, none⟩)) rfl (by kernel_rfl) (by kernel_rfl) (by kernel_rfl) (fun _ _ _ h => h)
      (Or.inl ⟨by rfl, by intro w hSw;  clear hSw; go_simp⟩) hHeld2 ?_
    try simp only [Act.put, List.setIfInBounds_toArray, List.set_cons_zero, List.set_cons_succ]
    refine wpAnyH_take (i := 8) (oi := { dst := some 30, op := Op.load 3 (Operand.tmp 29), type := 3, pos := "work.go:105", after := #[{ on := 7, ground := Ground.data }], guard := none }) (v := .int .i64 (i : Int)) rfl (by kernel_rfl) (by kernel_rfl) (by kernel_rfl) (fun _ _ _ h => h)
      (Or.inl ⟨by rfl, by intro w hSw; have hq := Has.cellAt hSw.1 (i := 2) rfl; clear hSw; go_simp⟩) hHeld2 ?_
    try simp only [Act.put, List.setIfInBounds_toArray, List.set_cons_zero, List.set_cons_succ]
    refine wpAnyH_take (i := 9) (oi := { dst := some 31, op := Op.load 37 (Operand.tmp 5), type := 37, pos := "work.go:105", after := #[], guard := none }) rfl (by kernel_rfl) (by kernel_rfl) (by kernel_rfl) (fun _ _ _ h => h)
      (yieldsIf_load_mid (by rfl) 37 (.tmp 5) rfl (w.heap.size + 1) (0) rfl ct _ (fun _ h => has_range h.2) Tryz.underlying37 rfl HI5.out) hHeld2 ?_
    try simp only [Act.put, List.setIfInBounds_toArray, List.set_cons_zero, List.set_cons_succ]
    refine wpAnyH_ready (rs := [6, 10]) (by kernel_rfl) (by simp) ?_
    refine AllReadyH.cons (o := { dst := some 28, op := Op.load 35 (Operand.tmp 27), type := 35, pos := "work.go:105", after := #[{ on := 5, ground := Ground.data }], guard := none }) rfl (fun K hK => ?_) (AllReadyH.cons (o := { dst := some 32, op := Op.buildSlice 35 1 #[(0, Operand.tmp 31)], type := 35, pos := "work.go:105", after := #[{ on := 9, ground := Ground.data }], guard := none }) rfl (fun K hK => ?_) AllReadyH.nil)
    · have q3 : World.cell? w4.drew ⟨db, o + 4, none⟩ = some vk := Has.cellAt (X4.out.drew) X44.out
      go_simp
      clear q3
      refine hK.out _ _ (⟨G4.out.drew, T4.out.drew⟩) (fun hHw1 => ?_)
      clear hK K hHeld2
      try simp only [Act.put, List.setIfInBounds_toArray, List.set_cons_zero, List.set_cons_succ]
      refine wpAnyH_ready (rs := [10]) (by kernel_rfl) (by simp) ?_
      refine AllReadyH.cons (o := { dst := some 32, op := Op.buildSlice 35 1 #[(0, Operand.tmp 31)], type := 35, pos := "work.go:105", after := #[{ on := 9, ground := Ground.data }], guard := none }) rfl (fun K hK => ?_) AllReadyH.nil
      obtain ⟨tk0, tx0, a1, n1, m1, a2, n2, m2, a3, n3, m3, hsh⟩ := HSH.out
      rw [hsh]
      go_simp
      obtain ⟨w5, hw5⟩ : ∃ w5, w5 = (w4.alloc (.cells #[.int .u8 (tk0.toNat : Int), .bool tx0, .slice a1 n1 m1, .slice a2 n2 m2, .slice a3 n3 m3] 37)).drew := ⟨_, rfl⟩
      have X5 : Hid (Has w5 db (X.set (o + 3) (.slice va vl vc)) ty) := Lib.hid (by rw [hw5]; exact (X4.out.alloc _).drew)
      have G5 : Hid (Has w5 w.heap.size (spC db o nm i dep tk) 180) := Lib.hid (by rw [hw5]; exact (G4.out.alloc _).drew)
      have T5 : Hid (Has w5 (w.heap.size + 1) ct 37) := Lib.hid (by rw [hw5]; exact (T4.out.alloc _).drew)
      have N5 : Hid (w5.ownsRow B tS 1 (.slice va vl vc) (ns.length + 1) ((ns.take i ++ nm :: ns.drop i).map Value.string)) := Lib.hid (by rw [hw5]; exact owns_drew (owns_alloc N4.out _))
      have K5 : Hid (w5.ownsRow B tT 5 vk ns.length L) := Lib.hid (by rw [hw5]; exact owns_drew (owns_alloc K4.out _))
      have V5 : Hid (Has w5 w4.heap.size ct 37) := Lib.hid (by rw [hw5, hsh]; exact (Has.new w4 [.int .u8 (tk0.toNat : Int), .bool tx0, .slice a1 n1 m1, .slice a2 n2 m2, .slice a3 n3 m3] _).drew)
      have F5 : Hid (Fr (db :: blk vn) w w5) := Lib.hid (by rw [hw5]; exact (F4.out.alloc _).drew)
      have S5 : Hid (w5.heap.size = w4.heap.size + 1) := Lib.hid (by rw [hw5]; simp)
      first | rw [← hw5] | skip
      clear hw5 hsh
      refine hK.out _ _ (⟨G5.out, T5.out⟩) (fun hHw2 => ?_)
      clear hK K hHw1
      try simp only [Act.put, List.setIfInBounds_toArray, List.set_cons_zero, List.set_cons_succ]
      refine wpAnyH_ready (rs := [11]) (by kernel_rfl) (by simp) ?_
      refine AllReadyH.cons (o := { dst := some 33, op := Op.call { callee := Callee.value (Operand.func 141), args := #[Operand.tmp 28, Operand.tmp 30, Operand.tmp 32], argTypes := #[35, 3, 35] }, type := 35, pos := "work.go:105", after := #[{ on := 6, ground := Ground.data }, { on := 8, ground := Ground.data }, { on := 10, ground := Ground.data }], guard := none }) rfl (fun K hK => ?_) AllReadyH.nil
      go_simp
      have hcl := insT_any K5.out (by have := S5.out; have := S4.out; have := HB.out; omega) (by have := HL.out; omega) HI.out (vb := w4.heap.size) V5.out HCT.out (fun e => by have := blk_lt K4.out e; omega) H1L.out H1C.out
      rw [hvk] at hcl
      refine hcl.mono ?_
      rw [← hvk]
      rintro e w6 ⟨VK0, rfl, ho6, hg6, hb6⟩
      obtain ⟨ua, ul, uc, rfl⟩ := slice_owned ho6
      have K6 := Lib.hid ho6
      have N6 : Hid (w6.ownsRow B tS 1 (.slice va vl vc) (ns.length + 1) ((ns.take i ++ nm :: ns.drop i).map Value.string)) := Lib.hid (owns_grown3 N5.out K5.out (by decide) hg6)
      have GR6 : Hid (Fr (blk vk) w5 w6) := Lib.hid (Fr.of_grown hg6 (fun g h => mem_blk.2 h))
      have HVK : Hid (∀ g, (Value.slice ua ul uc).ownBlock = some g → vk.ownBlock = some g ∨ w5.heap.size ≤ g) := Lib.hid hb6
      have S5L : Hid (w.heap.size ≤ w5.heap.size) := Lib.hid (by have := S5.out; have := S4.out; omega)
      have X6 : Hid (Has w6 db (X.set (o + 3) (.slice va vl vc)) ty) := Lib.hid (has_fr X5.out GR6.out (fun h => HKD.out (mem_blk.1 h)))
      have NK : Hid (∀ g, g < w.heap.size + 1 + 1 → w.heap.size ≤ g → g ∉ blk vk) := Lib.hid (fun g h1 h2 h3 => by have := blk_lt HK.out (mem_blk.1 h3); omega)
      have G6 : Hid (Has w6 w.heap.size (spC db o nm i dep tk) 180) := Lib.hid (has_fr G5.out GR6.out (NK.out _ (by omega) (by omega)))
      have T6 : Hid (Has w6 (w.heap.size + 1) ct 37) := Lib.hid (has_fr T5.out GR6.out (NK.out _ (by omega) (by omega)))
      have F6 : Hid (Fr (db :: (blk vn ++ blk vk)) w w6) := Lib.hid ((F5.out.mono (S' := db :: (blk vn ++ blk vk)) (fun g hg _ => by
        rcases List.mem_cons.1 hg with h | h
        · simp [h]
        · simp [h])).trans GR6.out (fun g hg _ => by simp [hg]))
      clear ho6 hg6 hb6 hcl
      go_wp2_with fail
      refine hK.out _ _ (⟨G6.out, T6.out⟩) (fun hHw3 => ?_)
      clear hK K hHw2
      try simp only [Act.put, List.setIfInBounds_toArray, List.set_cons_zero, List.set_cons_succ]
      refine wpAnyH_take (i := 12) (oi := { dst := some 34, op := Op.nilCheck (Operand.tmp 23), type := 0, pos := "work.go:105", after := #[{ on := 1, ground := Ground.data }, { on := 0, ground := Ground.phase }, { on := 1, ground := Ground.phase }, { on := 2, ground := Ground.phase }, { on := 3, ground := Ground.phase }, { on := 4, ground := Ground.phase }, { on := 5, ground := Ground.phase }, { on := 6, ground := Ground.phase }, { on := 7, ground := Ground.phase }, { on := 8, ground := Ground.phase }, { on := 9, ground := Ground.phase }, { on := 10, ground := Ground.phase }, { on := 11, ground := Ground.phase }], guard := none }) (v := .pointer (some ⟨db, o, none⟩)) rfl (by kernel_rfl) (by kernel_rfl) (by kernel_rfl) (fun _ _ _ h => h)
        (Or.inl ⟨by rfl, by intro w hSw;  clear hSw; go_simp⟩) hHw3 ?_
      try simp only [Act.put, List.setIfInBounds_toArray, List.set_cons_zero, List.set_cons_succ]
      refine wpAnyH_take (i := 13) (oi := { dst := some 35, op := Op.fieldAddr 37 (Operand.tmp 34) 4, type := 0, pos := "work.go:105", after := #[{ on := 12, ground := Ground.data }, { on := 0, ground := Ground.phase }, { on := 1, ground := Ground.phase }, { on := 2, ground := Ground.phase }, { on := 3, ground := Ground.phase }, { on := 4, ground := Ground.phase }, { on := 5, ground := Ground.phase }, { on := 6, ground := Ground.phase }, { on := 7, ground := Ground.phase }, { on := 8, ground := Ground.phase }, { on := 9, ground := Ground.phase }, { on := 10, ground := Ground.phase }, { on := 11, ground := Ground.phase }], guard := none }) (v := .pointer (some ⟨db, o + 4, none⟩)) rfl (by kernel_rfl) (by kernel_rfl) (by kernel_rfl) (fun _ _ _ h => h)
        (Or.inl ⟨by rfl, by intro w hSw;  clear hSw; go_simp⟩) hHw3 ?_
      try simp only [Act.put, List.setIfInBounds_toArray, List.set_cons_zero, List.set_cons_succ]
      refine wpAnyH_ready (rs := [14]) (by kernel_rfl) (by simp) ?_
      refine AllReadyH.cons (o := { dst := none, op := Op.store 35 (Operand.tmp 35) (Operand.tmp 33), type := 0, pos := "work.go:105", after := #[{ on := 13, ground := Ground.data }, { on := 11, ground := Ground.data }, { on := 11, ground := Ground.chain }, { on := 0, ground := Ground.phase }, { on := 1, ground := Ground.phase }, { on := 2, ground := Ground.phase }, { on := 3, ground := Ground.phase }, { on := 4, ground := Ground.phase }, { on := 5, ground := Ground.phase }, { on := 6, ground := Ground.phase }, { on := 7, ground := Ground.phase }, { on := 8, ground := Ground.phase }, { on := 9, ground := Ground.phase }, { on := 10, ground := Ground.phase }, { on := 11, ground := Ground.phase }], guard := none }) rfl (fun K hK => ?_) AllReadyH.nil
      have q3 : w6.cell? ⟨db, o + 4, none⟩ = some vk := Has.cellAt X6.out X44.out
      have f3 : w6.frozen? ⟨db, o + 4, none⟩ = false := X6.out.frozen (o + 4)
      go_simp
      clear q3 f3
      obtain ⟨w7, hw7⟩ : ∃ w7, w7 = w6.setCell ⟨db, o + 4, none⟩ (.slice ua ul uc) := ⟨_, rfl⟩
      have X7 : Hid (Has w7 db ((X.set (o + 3) (.slice va vl vc)).set (o + 4) (.slice ua ul uc)) ty) := Lib.hid (by rw [hw7]; exact X6.out.set (o + 4) _)
      have KD7 : Hid ((Value.slice ua ul uc).ownBlock ≠ some db) := Lib.hid (fun e => by
        rcases HVK.out db e with h | h
        · exact HKD.out h
        · have := S5.out; have := S4.out; have := hdl.out; omega)
      have K7 : Hid (w7.ownsRow B tT 5 (.slice ua ul uc) (ns.length + 1) (L.take (i * 5) ++ ct ++ L.drop (i * 5))) := Lib.hid (by rw [hw7]; exact owns_set2 K6.out KD7.out _ _)
      have N7 : Hid (w7.ownsRow B tS 1 (.slice va vl vc) (ns.length + 1) ((ns.take i ++ nm :: ns.drop i).map Value.string)) := Lib.hid (by rw [hw7]; exact owns_set2 N6.out ND4.out _ _)
      have G7 : Hid (Has w7 w.heap.size (spC db o nm i dep tk) 180) := Lib.hid (by rw [hw7]; exact G6.out.setOther (a := ⟨db, o + 4, none⟩) (by have := hdl.out; show w.heap.size ≠ db; omega) _)
      have T7 : Hid (Has w7 (w.heap.size + 1) ct 37) := Lib.hid (by rw [hw7]; exact T6.out.setOther (a := ⟨db, o + 4, none⟩) (by have := hdl.out; show w.heap.size + 1 ≠ db; omega) _)
      have F7 : Hid (Fr (db :: (blk vn ++ blk vk)) w w7) := Lib.hid (by rw [hw7]; exact F6.out.setCell (.inl (by simp)) _ _)
      have S7 : Hid (w.heap.size + 1 + 1 + 1 ≤ w7.heap.size) := Lib.hid (by have h0 := GR6.out.size; have h1 := S4.out; have h2 := S5.out; have h3 : w7.heap.size = w6.heap.size := (by rw [hw7]; simp [World.setCell]); omega)
      first | rw [← hw7] | skip
      clear hw7 X4 N4 K4 G4 T4 F4 X5 N5 K5 G5 T5 F5 X6 N6 K6 G6 T6 F6 V5 GR6
      refine hK.out _ _ (⟨G7.out, T7.out⟩) (fun hHw4 => ?_)
      clear hK K hHw3
      try simp only [Act.put, List.setIfInBounds_toArray, List.set_cons_zero, List.set_cons_succ]
      refine wpAnyH_done (by kernel_rfl) ?_ _
      clear hHw4
      have PP : Hid (∃ e3 e4, Has w7 p (wkC c0 c1 c2 e3 e4 (a : Int) (b : Int)) 140 ∧ (p = db → e3 = .slice va vl vc ∧ e4 = .slice ua ul uc) ∧ (p ≠ db → e3 = c3 ∧ e4 = c4)) := Lib.hid (by
        rcases HPP.out with ⟨rfl, rfl, rfl, rfl⟩ | ⟨h1, h2⟩
        · exact ⟨_, _, X7.out, fun _ => ⟨rfl, rfl⟩, fun h => absurd rfl h⟩
        · refine ⟨c3, c4, has_fr h2 F7.out (fun hm => ?_), fun h => absurd h h1, fun _ => ⟨rfl, rfl⟩⟩
          rcases List.mem_cons.1 hm with h3 | h3
          · exact h1 h3
          · rcases List.mem_append.1 h3 with h4 | h4
            · exact own_type2 HN.out h2 (by decide) (mem_blk.1 h4)
            · exact own_type2 HK.out h2 (by decide) (mem_blk.1 h4))
      obtain ⟨e3, e4, hp7, he1, he2⟩ := PP.out
      have P7 := Lib.hid hp7
      have HE1 := Lib.hid he1
      have HE2 := Lib.hid he2
      have HTC := Lib.hid (show IsT w7 lv ct tt from HTT.out w7 (F7.out.mono (fun g hg _ => List.mem_cons_of_mem _ hg)))
      have T7r : Hid (w7.heap[w.heap.size + 1]? = some (.cells ct.toArray 37 (0, 0))) := Lib.hid (show _ from T7.out)
      have HIA : Hid ((Tryz.prog.info? 37).map (·.size) = some ct.toArray.size) := Lib.hid (by rw [HI5.out]; simp)
      clear hp7 he1 he2 PP
      go_wp2_with (refine wpList_load_row rfl 37 _ rfl (w.heap.size + 1) rfl 37 ct.toArray (0, 0) _ T7r.out Tryz.underlying37 rfl HIA.out ?_)
      refine (count_w lv ct tt w7 p c0 c1 c2 e3 e4 (a : Int) (b : Int) 1 x y HTC.out P7.out HZZ.out (.inl rfl) HBA.out HBB.out).mono ?_
      rintro e w8 ⟨rfl, hp8, hb8⟩
      obtain ⟨A, hA⟩ : ∃ A, A = a + x := ⟨_, rfl⟩
      obtain ⟨C, hC⟩ : ∃ C, C = b + y := ⟨_, rfl⟩
      have P8 : Hid (Has w8 p (wkC c0 c1 c2 e3 e4 (A : Int) (C : Int)) 140) := Lib.hid (by rw [hA, hC, Int.natCast_add, Int.natCast_add]; rw [Int.one_mul, Int.one_mul] at hp8; exact hp8)
      have B8 := Lib.hid hb8
      have HA := Lib.hid hA
      have HC := Lib.hid hC
      have PLT : Hid (p < w7.heap.size) := Lib.hid P7.out.lt
      have PW : Hid (p < w.heap.size) := Lib.hid (by
        rcases HPP.out with ⟨rfl, _, _, _⟩ | ⟨h1, h2⟩
        · exact hdl.out
        · exact h2.lt)
      have F8 : Hid (Fr (p :: db :: (blk vn ++ blk vk)) w w8) := Lib.hid ((F7.out.mono (S' := p :: db :: (blk vn ++ blk vk)) (fun g hg _ => List.mem_cons_of_mem _ hg)).trans (Fr.of_but (S := [p]) hb8 (.inl (by simp))) (fun g hg _ => by simp only [List.mem_cons, List.not_mem_nil, or_false] at hg; simp [hg]))
      have G8 : Hid (Has w8 w.heap.size (spC db o nm i dep tk) 180) := Lib.hid (G7.out.but hb8 G7.out.lt (by have := PW.out; omega))
      have T8 : Hid (Has w8 (w.heap.size + 1) ct 37) := Lib.hid (T7.out.but hb8 T7.out.lt (by have := PW.out; omega))
      have RES : Hid (∀ (e : Ending) (w' : World), e = .returned (.int .i64 (if 4096 < A ∨ 65536 < C ∨ 16 < dep + heightT tt then 2 else 0)) → Fr (p :: db :: (blk vn ++ blk vk)) w w' → Below w8.heap.size w8 w' → LayP w B p db o X L ct ty vn vk c0 c1 c2 c3 c4 ns nm i a b x y dep tt e w') := Lib.hid (fun e w' he hf hl => by
        rw [HA.out, HC.out] at he
        have hP8 : Has w' p (wkC c0 c1 c2 e3 e4 (A : Int) (C : Int)) 140 := has_fr (S := []) P8.out (Fr.of_below hl) (by simp)
        have hl8 : Fr [p] w7 w' := (Fr.of_but (S := [p]) B8.out (.inl (by simp))).trans (Fr.of_below (S := []) hl) (fun g hg => by simp at hg)
        rw [HA.out, HC.out] at hP8
        have hpn : p ∉ blk (Value.slice va vl vc) := fun h => own_type2 N7.out P7.out (by decide) (mem_blk.1 h)
        have hpk : p ∉ blk (Value.slice ua ul uc) := fun h => own_type2 K7.out P7.out (by decide) (mem_blk.1 h)
        refine ⟨.slice va vl vc, .slice ua ul uc, he, fun h => ?_, fun h => ⟨has_fr X7.out hl8 (by simp only [List.mem_cons, List.not_mem_nil, or_false]; exact fun e => h e.symm), ?_⟩, owns_fr N7.out hl8 (fun g hg hm => ?_), owns_fr K7.out hl8 (fun g hg hm => ?_), hf, fun g hg => ?_, fun g hg => ?_⟩
        · obtain ⟨rfl, rfl⟩ := HE1.out h
          exact hP8
        · obtain ⟨rfl, rfl⟩ := HE2.out h
          exact hP8
        · simp only [List.mem_cons, List.not_mem_nil, or_false] at hm
          subst hm
          exact hpn hg
        · simp only [List.mem_cons, List.not_mem_nil, or_false] at hm
          subst hm
          exact hpk hg
        · rcases HVN.out g hg with h | h
          · exact .inl h
          · exact .inr (by have := S2L.out; omega)
        · rcases HVK.out g hg with h | h
          · exact .inl h
          · exact .inr (by have := S5L.out; omega))
      clear hp8 hb8 P7 T7r HTC hA hC B8 N7 K7 X7 G7 T7 F7 HVN HVK
      by_cases q1 : 4096 < A
      · have z1 : (4096 : Int) < (A : Int) := by omega
        go_wp2_with fail
        refine wp_region_held_drew (S := fun W => Has W w.heap.size (spC db o nm i dep tk) 180 ∧ Has W (w.heap.size + 1) ct 37 ∧ Has W p (wkC c0 c1 c2 e3 e4 (A : Int) (C : Int)) 140) (by kernel_rfl) ⟨G8.out.drew, T8.out.drew, P8.out.drew⟩ (fun hHeld4 => ?_)
        refine wpAnyH_take (i := 0) (oi := { dst := some 39, op := Op.move (Operand.tmp 0), type := 136, pos := "work.go:107", after := #[], guard := none }) (v := .pointer (some ⟨p, 0, none⟩)) rfl (by kernel_rfl) (by kernel_rfl) (by kernel_rfl) (fun _ _ _ h => h)
          (Or.inl ⟨by rfl, by intro w hSw;  clear hSw; go_simp⟩) hHeld4 ?_
        try simp only [Act.put, List.setIfInBounds_toArray, List.set_cons_zero, List.set_cons_succ]
        refine wpAnyH_take (i := 1) (oi := { dst := some 40, op := Op.nilCheck (Operand.tmp 39), type := 0, pos := "work.go:107", after := #[{ on := 0, ground := Ground.data }], guard := none }) (v := .pointer (some ⟨p, 0, none⟩)) rfl (by kernel_rfl) (by kernel_rfl) (by kernel_rfl) (fun _ _ _ h => h)
          (Or.inl ⟨by rfl, by intro w hSw;  clear hSw; go_simp⟩) hHeld4 ?_
        try simp only [Act.put, List.setIfInBounds_toArray, List.set_cons_zero, List.set_cons_succ]
        refine wpAnyH_take (i := 2) (oi := { dst := some 41, op := Op.fieldAddr 140 (Operand.tmp 40) 1, type := 0, pos := "work.go:107", after := #[{ on := 1, ground := Ground.data }], guard := none }) (v := .pointer (some ⟨p, 5, none⟩)) rfl (by kernel_rfl) (by kernel_rfl) (by kernel_rfl) (fun _ _ _ h => h)
          (Or.inl ⟨by rfl, by intro w hSw;  clear hSw; go_simp⟩) hHeld4 ?_
        try simp only [Act.put, List.setIfInBounds_toArray, List.set_cons_zero, List.set_cons_succ]
        refine wpAnyH_take (i := 3) (oi := { dst := some 42, op := Op.load 3 (Operand.tmp 41), type := 3, pos := "work.go:107", after := #[{ on := 2, ground := Ground.data }], guard := none }) (v := .int .i64 (A : Int)) rfl (by kernel_rfl) (by kernel_rfl) (by kernel_rfl) (fun _ _ _ h => h)
          (Or.inl ⟨by rfl, by intro w hSw; have hq := Has.cellAt hSw.2.2 (i := 5) rfl; clear hSw; go_simp⟩) hHeld4 ?_
        try simp only [Act.put, List.setIfInBounds_toArray, List.set_cons_zero, List.set_cons_succ]
        refine wpAnyH_take (i := 4) (oi := { dst := some 43, op := Op.binOp BinOp.gtr 3 (Operand.tmp 42) (Operand.const (Value.int IntKind.i64 4096)) 3, type := 4, pos := "work.go:107", after := #[{ on := 3, ground := Ground.data }], guard := none }) (v := .bool true) rfl (by kernel_rfl) (by kernel_rfl) (by kernel_rfl) (fun _ _ _ h => h)
          (Or.inl ⟨by rfl, by intro w hSw;  clear hSw; go_simp⟩) hHeld4 ?_
        try simp only [Act.put, List.setIfInBounds_toArray, List.set_cons_zero, List.set_cons_succ]
        refine wpAnyH_take (i := 5) (oi := { dst := some 44, op := Op.move (Operand.tmp 43), type := 4, pos := "work.go:107", after := #[{ on := 4, ground := Ground.data }], guard := none }) (v := .bool true) rfl (by kernel_rfl) (by kernel_rfl) (by kernel_rfl) (fun _ _ _ h => h)
          (Or.inl ⟨by rfl, by intro w hSw;  clear hSw; go_simp⟩) hHeld4 ?_
        try simp only [Act.put, List.setIfInBounds_toArray, List.set_cons_zero, List.set_cons_succ]
        refine wpAnyH_take (i := 6) (oi := { dst := some 45, op := Op.move (Operand.tmp 0), type := 136, pos := "work.go:107", after := #[{ on := 5, ground := Ground.guard }], guard := some (5, false) }) (v := undef) rfl (by kernel_rfl) (by kernel_rfl) (by kernel_rfl) (fun _ _ _ h => h)
          (Or.inr ⟨by rfl, by rfl⟩) hHeld4 ?_
        try simp only [Act.put, List.setIfInBounds_toArray, List.set_cons_zero, List.set_cons_succ]
        refine wpAnyH_take (i := 7) (oi := { dst := some 46, op := Op.nilCheck (Operand.tmp 45), type := 0, pos := "work.go:107", after := #[{ on := 6, ground := Ground.data }, { on := 5, ground := Ground.guard }], guard := some (5, false) }) (v := undef) rfl (by kernel_rfl) (by kernel_rfl) (by kernel_rfl) (fun _ _ _ h => h)
          (Or.inr ⟨by rfl, by rfl⟩) hHeld4 ?_
        try simp only [Act.put, List.setIfInBounds_toArray, List.set_cons_zero, List.set_cons_succ]
        refine wpAnyH_take (i := 8) (oi := { dst := some 47, op := Op.fieldAddr 140 (Operand.tmp 46) 2, type := 0, pos := "work.go:107", after := #[{ on := 7, ground := Ground.data }, { on := 5, ground := Ground.guard }], guard := some (5, false) }) (v := undef) rfl (by kernel_rfl) (by kernel_rfl) (by kernel_rfl) (fun _ _ _ h => h)
          (Or.inr ⟨by rfl, by rfl⟩) hHeld4 ?_
        try simp only [Act.put, List.setIfInBounds_toArray, List.set_cons_zero, List.set_cons_succ]
        refine wpAnyH_take (i := 9) (oi := { dst := some 48, op := Op.load 3 (Operand.tmp 47), type := 3, pos := "work.go:107", after := #[{ on := 8, ground := Ground.data }, { on := 5, ground := Ground.guard }], guard := some (5, false) }) (v := undef) rfl (by kernel_rfl) (by kernel_rfl) (by kernel_rfl) (fun _ _ _ h => h)
          (Or.inr ⟨by rfl, by rfl⟩) hHeld4 ?_
        try simp only [Act.put, List.setIfInBounds_toArray, List.set_cons_zero, List.set_cons_succ]
        refine wpAnyH_take (i := 10) (oi := { dst := some 49, op := Op.binOp BinOp.gtr 3 (Operand.tmp 48) (Operand.const (Value.int IntKind.i64 65536)) 3, type := 4, pos := "work.go:107", after := #[{ on := 9, ground := Ground.data }, { on := 5, ground := Ground.guard }], guard := some (5, false) }) (v := undef) rfl (by kernel_rfl) (by kernel_rfl) (by kernel_rfl) (fun _ _ _ h => h)
          (Or.inr ⟨by rfl, by rfl⟩) hHeld4 ?_
        try simp only [Act.put, List.setIfInBounds_toArray, List.set_cons_zero, List.set_cons_succ]
        refine wpAnyH_take (i := 11) (oi := { dst := some 50, op := Op.pick (Operand.tmp 44) (Operand.const (Value.bool true)) (Operand.tmp 49), type := 4, pos := "work.go:107", after := #[{ on := 5, ground := Ground.data }, { on := 10, ground := Ground.data }], guard := none }) (v := .bool true) rfl (by kernel_rfl) (by kernel_rfl) (by kernel_rfl) (fun _ _ _ h => h)
          (Or.inl ⟨by rfl, by intro w hSw;  clear hSw; go_simp⟩) hHeld4 ?_
        try simp only [Act.put, List.setIfInBounds_toArray, List.set_cons_zero, List.set_cons_succ]
        refine wpAnyH_take (i := 12) (oi := { dst := some 51, op := Op.move (Operand.tmp 50), type := 4, pos := "work.go:107", after := #[{ on := 11, ground := Ground.data }, { on := 5, ground := Ground.chain }], guard := none }) (v := .bool true) rfl (by kernel_rfl) (by kernel_rfl) (by kernel_rfl) (fun _ _ _ h => h)
          (Or.inl ⟨by rfl, by intro w hSw;  clear hSw; go_simp⟩) hHeld4 ?_
        try simp only [Act.put, List.setIfInBounds_toArray, List.set_cons_zero, List.set_cons_succ]
        refine wpAnyH_take (i := 13) (oi := { dst := some 52, op := Op.fieldAddr 180 (Operand.tmp 4) 3, type := 0, pos := "work.go:107", after := #[{ on := 12, ground := Ground.guard }], guard := some (12, false) }) (v := undef) rfl (by kernel_rfl) (by kernel_rfl) (by kernel_rfl) (fun _ _ _ h => h)
          (Or.inr ⟨by rfl, by rfl⟩) hHeld4 ?_
        try simp only [Act.put, List.setIfInBounds_toArray, List.set_cons_zero, List.set_cons_succ]
        refine wpAnyH_take (i := 14) (oi := { dst := some 53, op := Op.load 3 (Operand.tmp 52), type := 3, pos := "work.go:107", after := #[{ on := 13, ground := Ground.data }, { on := 12, ground := Ground.guard }], guard := some (12, false) }) (v := undef) rfl (by kernel_rfl) (by kernel_rfl) (by kernel_rfl) (fun _ _ _ h => h)
          (Or.inr ⟨by rfl, by rfl⟩) hHeld4 ?_
        try simp only [Act.put, List.setIfInBounds_toArray, List.set_cons_zero, List.set_cons_succ]
        refine wpAnyH_take (i := 15) (oi := { dst := some 54, op := Op.load 37 (Operand.tmp 5), type := 37, pos := "work.go:107", after := #[{ on := 12, ground := Ground.guard }], guard := some (12, false) }) (v := undef) rfl (by kernel_rfl) (by kernel_rfl) (by kernel_rfl) (fun _ _ _ h => h)
          (Or.inr ⟨by rfl, by rfl⟩) hHeld4 ?_
        try simp only [Act.put, List.setIfInBounds_toArray, List.set_cons_zero, List.set_cons_succ]
        refine wpAnyH_take (i := 16) (oi := { dst := some 55, op := Op.call { callee := Callee.value (Operand.func 143), args := #[Operand.tmp 54], argTypes := #[37] }, type := 3, pos := "work.go:107", after := #[{ on := 15, ground := Ground.data }, { on := 12, ground := Ground.chain }, { on := 12, ground := Ground.guard }], guard := some (12, false) }) (v := undef) rfl (by kernel_rfl) (by kernel_rfl) (by kernel_rfl) (fun _ _ _ h => h)
          (Or.inr ⟨by rfl, by rfl⟩) hHeld4 ?_
        try simp only [Act.put, List.setIfInBounds_toArray, List.set_cons_zero, List.set_cons_succ]
        refine wpAnyH_take (i := 17) (oi := { dst := some 56, op := Op.binOp BinOp.add 3 (Operand.tmp 53) (Operand.tmp 55) 3, type := 3, pos := "work.go:107", after := #[{ on := 14, ground := Ground.data }, { on := 16, ground := Ground.data }, { on := 12, ground := Ground.guard }], guard := some (12, false) }) (v := undef) rfl (by kernel_rfl) (by kernel_rfl) (by kernel_rfl) (fun _ _ _ h => h)
          (Or.inr ⟨by rfl, by rfl⟩) hHeld4 ?_
        try simp only [Act.put, List.setIfInBounds_toArray, List.set_cons_zero, List.set_cons_succ]
        refine wpAnyH_take (i := 18) (oi := { dst := some 57, op := Op.binOp BinOp.gtr 3 (Operand.tmp 56) (Operand.const (Value.int IntKind.i64 16)) 3, type := 4, pos := "work.go:107", after := #[{ on := 17, ground := Ground.data }, { on := 12, ground := Ground.guard }], guard := some (12, false) }) (v := undef) rfl (by kernel_rfl) (by kernel_rfl) (by kernel_rfl) (fun _ _ _ h => h)
          (Or.inr ⟨by rfl, by rfl⟩) hHeld4 ?_
        try simp only [Act.put, List.setIfInBounds_toArray, List.set_cons_zero, List.set_cons_succ]
        refine wpAnyH_take (i := 19) (oi := { dst := some 58, op := Op.pick (Operand.tmp 51) (Operand.const (Value.bool true)) (Operand.tmp 57), type := 4, pos := "work.go:107", after := #[{ on := 12, ground := Ground.data }, { on := 18, ground := Ground.data }], guard := none }) (v := .bool true) rfl (by kernel_rfl) (by kernel_rfl) (by kernel_rfl) (fun _ _ _ h => h)
          (Or.inl ⟨by rfl, by intro w hSw;  clear hSw; go_simp⟩) hHeld4 ?_
        try simp only [Act.put, List.setIfInBounds_toArray, List.set_cons_zero, List.set_cons_succ]
        refine wpAnyH_done (by kernel_rfl) ?_ _
        clear hHeld4
        go_wp2_with fail
        go_ret
        exact RES.out _ _ (by first | (rw [if_pos (Or.inl (by omega))]; rfl) | (rw [if_neg (by omega)]; rfl)) (F8.out.drew) ((Below.refl w8.heap.size w8).drew)
      · have z1 : ¬ (4096 : Int) < (A : Int) := by omega
        by_cases q2 : 65536 < C
        · have z2 : (65536 : Int) < (C : Int) := by omega
          go_wp2_with fail
          refine wp_region_held_drew (S := fun W => Has W w.heap.size (spC db o nm i dep tk) 180 ∧ Has W (w.heap.size + 1) ct 37 ∧ Has W p (wkC c0 c1 c2 e3 e4 (A : Int) (C : Int)) 140) (by kernel_rfl) ⟨G8.out.drew, T8.out.drew, P8.out.drew⟩ (fun hHeld4 => ?_)
          refine wpAnyH_take (i := 0) (oi := { dst := some 39, op := Op.move (Operand.tmp 0), type := 136, pos := "work.go:107", after := #[], guard := none }) (v := .pointer (some ⟨p, 0, none⟩)) rfl (by kernel_rfl) (by kernel_rfl) (by kernel_rfl) (fun _ _ _ h => h)
            (Or.inl ⟨by rfl, by intro w hSw;  clear hSw; go_simp⟩) hHeld4 ?_
          try simp only [Act.put, List.setIfInBounds_toArray, List.set_cons_zero, List.set_cons_succ]
          refine wpAnyH_take (i := 1) (oi := { dst := some 40, op := Op.nilCheck (Operand.tmp 39), type := 0, pos := "work.go:107", after := #[{ on := 0, ground := Ground.data }], guard := none }) (v := .pointer (some ⟨p, 0, none⟩)) rfl (by kernel_rfl) (by kernel_rfl) (by kernel_rfl) (fun _ _ _ h => h)
            (Or.inl ⟨by rfl, by intro w hSw;  clear hSw; go_simp⟩) hHeld4 ?_
          try simp only [Act.put, List.setIfInBounds_toArray, List.set_cons_zero, List.set_cons_succ]
          refine wpAnyH_take (i := 2) (oi := { dst := some 41, op := Op.fieldAddr 140 (Operand.tmp 40) 1, type := 0, pos := "work.go:107", after := #[{ on := 1, ground := Ground.data }], guard := none }) (v := .pointer (some ⟨p, 5, none⟩)) rfl (by kernel_rfl) (by kernel_rfl) (by kernel_rfl) (fun _ _ _ h => h)
            (Or.inl ⟨by rfl, by intro w hSw;  clear hSw; go_simp⟩) hHeld4 ?_
          try simp only [Act.put, List.setIfInBounds_toArray, List.set_cons_zero, List.set_cons_succ]
          refine wpAnyH_take (i := 3) (oi := { dst := some 42, op := Op.load 3 (Operand.tmp 41), type := 3, pos := "work.go:107", after := #[{ on := 2, ground := Ground.data }], guard := none }) (v := .int .i64 (A : Int)) rfl (by kernel_rfl) (by kernel_rfl) (by kernel_rfl) (fun _ _ _ h => h)
            (Or.inl ⟨by rfl, by intro w hSw; have hq := Has.cellAt hSw.2.2 (i := 5) rfl; clear hSw; go_simp⟩) hHeld4 ?_
          try simp only [Act.put, List.setIfInBounds_toArray, List.set_cons_zero, List.set_cons_succ]
          refine wpAnyH_take (i := 4) (oi := { dst := some 43, op := Op.binOp BinOp.gtr 3 (Operand.tmp 42) (Operand.const (Value.int IntKind.i64 4096)) 3, type := 4, pos := "work.go:107", after := #[{ on := 3, ground := Ground.data }], guard := none }) (v := .bool false) rfl (by kernel_rfl) (by kernel_rfl) (by kernel_rfl) (fun _ _ _ h => h)
            (Or.inl ⟨by rfl, by intro w hSw;  clear hSw; go_simp⟩) hHeld4 ?_
          try simp only [Act.put, List.setIfInBounds_toArray, List.set_cons_zero, List.set_cons_succ]
          refine wpAnyH_take (i := 5) (oi := { dst := some 44, op := Op.move (Operand.tmp 43), type := 4, pos := "work.go:107", after := #[{ on := 4, ground := Ground.data }], guard := none }) (v := .bool false) rfl (by kernel_rfl) (by kernel_rfl) (by kernel_rfl) (fun _ _ _ h => h)
            (Or.inl ⟨by rfl, by intro w hSw;  clear hSw; go_simp⟩) hHeld4 ?_
          try simp only [Act.put, List.setIfInBounds_toArray, List.set_cons_zero, List.set_cons_succ]
          refine wpAnyH_take (i := 6) (oi := { dst := some 45, op := Op.move (Operand.tmp 0), type := 136, pos := "work.go:107", after := #[{ on := 5, ground := Ground.guard }], guard := some (5, false) }) (v := .pointer (some ⟨p, 0, none⟩)) rfl (by kernel_rfl) (by kernel_rfl) (by kernel_rfl) (fun _ _ _ h => h)
            (Or.inl ⟨by rfl, by intro w hSw;  clear hSw; go_simp⟩) hHeld4 ?_
          try simp only [Act.put, List.setIfInBounds_toArray, List.set_cons_zero, List.set_cons_succ]
          refine wpAnyH_take (i := 7) (oi := { dst := some 46, op := Op.nilCheck (Operand.tmp 45), type := 0, pos := "work.go:107", after := #[{ on := 6, ground := Ground.data }, { on := 5, ground := Ground.guard }], guard := some (5, false) }) (v := .pointer (some ⟨p, 0, none⟩)) rfl (by kernel_rfl) (by kernel_rfl) (by kernel_rfl) (fun _ _ _ h => h)
            (Or.inl ⟨by rfl, by intro w hSw;  clear hSw; go_simp⟩) hHeld4 ?_
          try simp only [Act.put, List.setIfInBounds_toArray, List.set_cons_zero, List.set_cons_succ]
          refine wpAnyH_take (i := 8) (oi := { dst := some 47, op := Op.fieldAddr 140 (Operand.tmp 46) 2, type := 0, pos := "work.go:107", after := #[{ on := 7, ground := Ground.data }, { on := 5, ground := Ground.guard }], guard := some (5, false) }) (v := .pointer (some ⟨p, 6, none⟩)) rfl (by kernel_rfl) (by kernel_rfl) (by kernel_rfl) (fun _ _ _ h => h)
            (Or.inl ⟨by rfl, by intro w hSw;  clear hSw; go_simp⟩) hHeld4 ?_
          try simp only [Act.put, List.setIfInBounds_toArray, List.set_cons_zero, List.set_cons_succ]
          refine wpAnyH_take (i := 9) (oi := { dst := some 48, op := Op.load 3 (Operand.tmp 47), type := 3, pos := "work.go:107", after := #[{ on := 8, ground := Ground.data }, { on := 5, ground := Ground.guard }], guard := some (5, false) }) (v := .int .i64 (C : Int)) rfl (by kernel_rfl) (by kernel_rfl) (by kernel_rfl) (fun _ _ _ h => h)
            (Or.inl ⟨by rfl, by intro w hSw; have hq := Has.cellAt hSw.2.2 (i := 6) rfl; clear hSw; go_simp⟩) hHeld4 ?_
          try simp only [Act.put, List.setIfInBounds_toArray, List.set_cons_zero, List.set_cons_succ]
          refine wpAnyH_take (i := 10) (oi := { dst := some 49, op := Op.binOp BinOp.gtr 3 (Operand.tmp 48) (Operand.const (Value.int IntKind.i64 65536)) 3, type := 4, pos := "work.go:107", after := #[{ on := 9, ground := Ground.data }, { on := 5, ground := Ground.guard }], guard := some (5, false) }) (v := .bool true) rfl (by kernel_rfl) (by kernel_rfl) (by kernel_rfl) (fun _ _ _ h => h)
            (Or.inl ⟨by rfl, by intro w hSw;  clear hSw; go_simp⟩) hHeld4 ?_
          try simp only [Act.put, List.setIfInBounds_toArray, List.set_cons_zero, List.set_cons_succ]
          refine wpAnyH_take (i := 11) (oi := { dst := some 50, op := Op.pick (Operand.tmp 44) (Operand.const (Value.bool true)) (Operand.tmp 49), type := 4, pos := "work.go:107", after := #[{ on := 5, ground := Ground.data }, { on := 10, ground := Ground.data }], guard := none }) (v := .bool true) rfl (by kernel_rfl) (by kernel_rfl) (by kernel_rfl) (fun _ _ _ h => h)
            (Or.inl ⟨by rfl, by intro w hSw;  clear hSw; go_simp⟩) hHeld4 ?_
          try simp only [Act.put, List.setIfInBounds_toArray, List.set_cons_zero, List.set_cons_succ]
          refine wpAnyH_take (i := 12) (oi := { dst := some 51, op := Op.move (Operand.tmp 50), type := 4, pos := "work.go:107", after := #[{ on := 11, ground := Ground.data }, { on := 5, ground := Ground.chain }], guard := none }) (v := .bool true) rfl (by kernel_rfl) (by kernel_rfl) (by kernel_rfl) (fun _ _ _ h => h)
            (Or.inl ⟨by rfl, by intro w hSw;  clear hSw; go_simp⟩) hHeld4 ?_
          try simp only [Act.put, List.setIfInBounds_toArray, List.set_cons_zero, List.set_cons_succ]
          refine wpAnyH_take (i := 13) (oi := { dst := some 52, op := Op.fieldAddr 180 (Operand.tmp 4) 3, type := 0, pos := "work.go:107", after := #[{ on := 12, ground := Ground.guard }], guard := some (12, false) }) (v := undef) rfl (by kernel_rfl) (by kernel_rfl) (by kernel_rfl) (fun _ _ _ h => h)
            (Or.inr ⟨by rfl, by rfl⟩) hHeld4 ?_
          try simp only [Act.put, List.setIfInBounds_toArray, List.set_cons_zero, List.set_cons_succ]
          refine wpAnyH_take (i := 14) (oi := { dst := some 53, op := Op.load 3 (Operand.tmp 52), type := 3, pos := "work.go:107", after := #[{ on := 13, ground := Ground.data }, { on := 12, ground := Ground.guard }], guard := some (12, false) }) (v := undef) rfl (by kernel_rfl) (by kernel_rfl) (by kernel_rfl) (fun _ _ _ h => h)
            (Or.inr ⟨by rfl, by rfl⟩) hHeld4 ?_
          try simp only [Act.put, List.setIfInBounds_toArray, List.set_cons_zero, List.set_cons_succ]
          refine wpAnyH_take (i := 15) (oi := { dst := some 54, op := Op.load 37 (Operand.tmp 5), type := 37, pos := "work.go:107", after := #[{ on := 12, ground := Ground.guard }], guard := some (12, false) }) (v := undef) rfl (by kernel_rfl) (by kernel_rfl) (by kernel_rfl) (fun _ _ _ h => h)
            (Or.inr ⟨by rfl, by rfl⟩) hHeld4 ?_
          try simp only [Act.put, List.setIfInBounds_toArray, List.set_cons_zero, List.set_cons_succ]
          refine wpAnyH_take (i := 16) (oi := { dst := some 55, op := Op.call { callee := Callee.value (Operand.func 143), args := #[Operand.tmp 54], argTypes := #[37] }, type := 3, pos := "work.go:107", after := #[{ on := 15, ground := Ground.data }, { on := 12, ground := Ground.chain }, { on := 12, ground := Ground.guard }], guard := some (12, false) }) (v := undef) rfl (by kernel_rfl) (by kernel_rfl) (by kernel_rfl) (fun _ _ _ h => h)
            (Or.inr ⟨by rfl, by rfl⟩) hHeld4 ?_
          try simp only [Act.put, List.setIfInBounds_toArray, List.set_cons_zero, List.set_cons_succ]
          refine wpAnyH_take (i := 17) (oi := { dst := some 56, op := Op.binOp BinOp.add 3 (Operand.tmp 53) (Operand.tmp 55) 3, type := 3, pos := "work.go:107", after := #[{ on := 14, ground := Ground.data }, { on := 16, ground := Ground.data }, { on := 12, ground := Ground.guard }], guard := some (12, false) }) (v := undef) rfl (by kernel_rfl) (by kernel_rfl) (by kernel_rfl) (fun _ _ _ h => h)
            (Or.inr ⟨by rfl, by rfl⟩) hHeld4 ?_
          try simp only [Act.put, List.setIfInBounds_toArray, List.set_cons_zero, List.set_cons_succ]
          refine wpAnyH_take (i := 18) (oi := { dst := some 57, op := Op.binOp BinOp.gtr 3 (Operand.tmp 56) (Operand.const (Value.int IntKind.i64 16)) 3, type := 4, pos := "work.go:107", after := #[{ on := 17, ground := Ground.data }, { on := 12, ground := Ground.guard }], guard := some (12, false) }) (v := undef) rfl (by kernel_rfl) (by kernel_rfl) (by kernel_rfl) (fun _ _ _ h => h)
            (Or.inr ⟨by rfl, by rfl⟩) hHeld4 ?_
          try simp only [Act.put, List.setIfInBounds_toArray, List.set_cons_zero, List.set_cons_succ]
          refine wpAnyH_take (i := 19) (oi := { dst := some 58, op := Op.pick (Operand.tmp 51) (Operand.const (Value.bool true)) (Operand.tmp 57), type := 4, pos := "work.go:107", after := #[{ on := 12, ground := Ground.data }, { on := 18, ground := Ground.data }], guard := none }) (v := .bool true) rfl (by kernel_rfl) (by kernel_rfl) (by kernel_rfl) (fun _ _ _ h => h)
            (Or.inl ⟨by rfl, by intro w hSw;  clear hSw; go_simp⟩) hHeld4 ?_
          try simp only [Act.put, List.setIfInBounds_toArray, List.set_cons_zero, List.set_cons_succ]
          refine wpAnyH_done (by kernel_rfl) ?_ _
          clear hHeld4
          go_wp2_with fail
          go_ret
          exact RES.out _ _ (by first | (rw [if_pos (Or.inr (Or.inl (by omega)))]; rfl) | (rw [if_neg (by omega)]; rfl)) (F8.out.drew) ((Below.refl w8.heap.size w8).drew)
        · have z2 : ¬ (65536 : Int) < (C : Int) := by omega
          have z4 : (dep : Int) + (heightT tt : Int) ≤ 9223372036854775807 ∧ 0 ≤ (heightT tt : Int) ∧ 0 ≤ (dep : Int) := ⟨by have h1 := heightT_lt tt; have h2 := HNN.out; have h3 := HDP.out; omega, by omega, by omega⟩
          have z5 : IntKind.i64.wrap ((dep : Int) + (heightT tt : Int)) = (dep : Int) + (heightT tt : Int) := by rw [IntKind.wrap_i64]; omega
          by_cases q3 : 16 < dep + heightT tt
          · have z3 : (16 : Int) < (dep : Int) + (heightT tt : Int) := by omega
            go_wp2_with fail
            refine wp_region_held_drew (S := fun W => Has W w.heap.size (spC db o nm i dep tk) 180 ∧ Has W (w.heap.size + 1) ct 37 ∧ Has W p (wkC c0 c1 c2 e3 e4 (A : Int) (C : Int)) 140) (by kernel_rfl) ⟨G8.out.drew, T8.out.drew, P8.out.drew⟩ (fun hHeld4 => ?_)
            refine wpAnyH_take (i := 0) (oi := { dst := some 39, op := Op.move (Operand.tmp 0), type := 136, pos := "work.go:107", after := #[], guard := none }) (v := .pointer (some ⟨p, 0, none⟩)) rfl (by kernel_rfl) (by kernel_rfl) (by kernel_rfl) (fun _ _ _ h => h)
              (Or.inl ⟨by rfl, by intro w hSw;  clear hSw; go_simp⟩) hHeld4 ?_
            try simp only [Act.put, List.setIfInBounds_toArray, List.set_cons_zero, List.set_cons_succ]
            refine wpAnyH_take (i := 1) (oi := { dst := some 40, op := Op.nilCheck (Operand.tmp 39), type := 0, pos := "work.go:107", after := #[{ on := 0, ground := Ground.data }], guard := none }) (v := .pointer (some ⟨p, 0, none⟩)) rfl (by kernel_rfl) (by kernel_rfl) (by kernel_rfl) (fun _ _ _ h => h)
              (Or.inl ⟨by rfl, by intro w hSw;  clear hSw; go_simp⟩) hHeld4 ?_
            try simp only [Act.put, List.setIfInBounds_toArray, List.set_cons_zero, List.set_cons_succ]
            refine wpAnyH_take (i := 2) (oi := { dst := some 41, op := Op.fieldAddr 140 (Operand.tmp 40) 1, type := 0, pos := "work.go:107", after := #[{ on := 1, ground := Ground.data }], guard := none }) (v := .pointer (some ⟨p, 5, none⟩)) rfl (by kernel_rfl) (by kernel_rfl) (by kernel_rfl) (fun _ _ _ h => h)
              (Or.inl ⟨by rfl, by intro w hSw;  clear hSw; go_simp⟩) hHeld4 ?_
            try simp only [Act.put, List.setIfInBounds_toArray, List.set_cons_zero, List.set_cons_succ]
            refine wpAnyH_take (i := 3) (oi := { dst := some 42, op := Op.load 3 (Operand.tmp 41), type := 3, pos := "work.go:107", after := #[{ on := 2, ground := Ground.data }], guard := none }) (v := .int .i64 (A : Int)) rfl (by kernel_rfl) (by kernel_rfl) (by kernel_rfl) (fun _ _ _ h => h)
              (Or.inl ⟨by rfl, by intro w hSw; have hq := Has.cellAt hSw.2.2 (i := 5) rfl; clear hSw; go_simp⟩) hHeld4 ?_
            try simp only [Act.put, List.setIfInBounds_toArray, List.set_cons_zero, List.set_cons_succ]
            refine wpAnyH_take (i := 4) (oi := { dst := some 43, op := Op.binOp BinOp.gtr 3 (Operand.tmp 42) (Operand.const (Value.int IntKind.i64 4096)) 3, type := 4, pos := "work.go:107", after := #[{ on := 3, ground := Ground.data }], guard := none }) (v := .bool false) rfl (by kernel_rfl) (by kernel_rfl) (by kernel_rfl) (fun _ _ _ h => h)
              (Or.inl ⟨by rfl, by intro w hSw;  clear hSw; go_simp⟩) hHeld4 ?_
            try simp only [Act.put, List.setIfInBounds_toArray, List.set_cons_zero, List.set_cons_succ]
            refine wpAnyH_take (i := 5) (oi := { dst := some 44, op := Op.move (Operand.tmp 43), type := 4, pos := "work.go:107", after := #[{ on := 4, ground := Ground.data }], guard := none }) (v := .bool false) rfl (by kernel_rfl) (by kernel_rfl) (by kernel_rfl) (fun _ _ _ h => h)
              (Or.inl ⟨by rfl, by intro w hSw;  clear hSw; go_simp⟩) hHeld4 ?_
            try simp only [Act.put, List.setIfInBounds_toArray, List.set_cons_zero, List.set_cons_succ]
            refine wpAnyH_take (i := 6) (oi := { dst := some 45, op := Op.move (Operand.tmp 0), type := 136, pos := "work.go:107", after := #[{ on := 5, ground := Ground.guard }], guard := some (5, false) }) (v := .pointer (some ⟨p, 0, none⟩)) rfl (by kernel_rfl) (by kernel_rfl) (by kernel_rfl) (fun _ _ _ h => h)
              (Or.inl ⟨by rfl, by intro w hSw;  clear hSw; go_simp⟩) hHeld4 ?_
            try simp only [Act.put, List.setIfInBounds_toArray, List.set_cons_zero, List.set_cons_succ]
            refine wpAnyH_take (i := 7) (oi := { dst := some 46, op := Op.nilCheck (Operand.tmp 45), type := 0, pos := "work.go:107", after := #[{ on := 6, ground := Ground.data }, { on := 5, ground := Ground.guard }], guard := some (5, false) }) (v := .pointer (some ⟨p, 0, none⟩)) rfl (by kernel_rfl) (by kernel_rfl) (by kernel_rfl) (fun _ _ _ h => h)
              (Or.inl ⟨by rfl, by intro w hSw;  clear hSw; go_simp⟩) hHeld4 ?_
            try simp only [Act.put, List.setIfInBounds_toArray, List.set_cons_zero, List.set_cons_succ]
            refine wpAnyH_take (i := 8) (oi := { dst := some 47, op := Op.fieldAddr 140 (Operand.tmp 46) 2, type := 0, pos := "work.go:107", after := #[{ on := 7, ground := Ground.data }, { on := 5, ground := Ground.guard }], guard := some (5, false) }) (v := .pointer (some ⟨p, 6, none⟩)) rfl (by kernel_rfl) (by kernel_rfl) (by kernel_rfl) (fun _ _ _ h => h)
              (Or.inl ⟨by rfl, by intro w hSw;  clear hSw; go_simp⟩) hHeld4 ?_
            try simp only [Act.put, List.setIfInBounds_toArray, List.set_cons_zero, List.set_cons_succ]
            refine wpAnyH_take (i := 9) (oi := { dst := some 48, op := Op.load 3 (Operand.tmp 47), type := 3, pos := "work.go:107", after := #[{ on := 8, ground := Ground.data }, { on := 5, ground := Ground.guard }], guard := some (5, false) }) (v := .int .i64 (C : Int)) rfl (by kernel_rfl) (by kernel_rfl) (by kernel_rfl) (fun _ _ _ h => h)
              (Or.inl ⟨by rfl, by intro w hSw; have hq := Has.cellAt hSw.2.2 (i := 6) rfl; clear hSw; go_simp⟩) hHeld4 ?_
            try simp only [Act.put, List.setIfInBounds_toArray, List.set_cons_zero, List.set_cons_succ]
            refine wpAnyH_take (i := 10) (oi := { dst := some 49, op := Op.binOp BinOp.gtr 3 (Operand.tmp 48) (Operand.const (Value.int IntKind.i64 65536)) 3, type := 4, pos := "work.go:107", after := #[{ on := 9, ground := Ground.data }, { on := 5, ground := Ground.guard }], guard := some (5, false) }) (v := .bool false) rfl (by kernel_rfl) (by kernel_rfl) (by kernel_rfl) (fun _ _ _ h => h)
              (Or.inl ⟨by rfl, by intro w hSw;  clear hSw; go_simp⟩) hHeld4 ?_
            try simp only [Act.put, List.setIfInBounds_toArray, List.set_cons_zero, List.set_cons_succ]
            refine wpAnyH_take (i := 11) (oi := { dst := some 50, op := Op.pick (Operand.tmp 44) (Operand.const (Value.bool true)) (Operand.tmp 49), type := 4, pos := "work.go:107", after := #[{ on := 5, ground := Ground.data }, { on := 10, ground := Ground.data }], guard := none }) (v := .bool false) rfl (by kernel_rfl) (by kernel_rfl) (by kernel_rfl) (fun _ _ _ h => h)
              (Or.inl ⟨by rfl, by intro w hSw;  clear hSw; go_simp⟩) hHeld4 ?_
            try simp only [Act.put, List.setIfInBounds_toArray, List.set_cons_zero, List.set_cons_succ]
            refine wpAnyH_take (i := 12) (oi := { dst := some 51, op := Op.move (Operand.tmp 50), type := 4, pos := "work.go:107", after := #[{ on := 11, ground := Ground.data }, { on := 5, ground := Ground.chain }], guard := none }) (v := .bool false) rfl (by kernel_rfl) (by kernel_rfl) (by kernel_rfl) (fun _ _ _ h => h)
              (Or.inl ⟨by rfl, by intro w hSw;  clear hSw; go_simp⟩) hHeld4 ?_
            try simp only [Act.put, List.setIfInBounds_toArray, List.set_cons_zero, List.set_cons_succ]
            refine wpAnyH_take (i := 13) (oi := { dst := some 52, op := Op.fieldAddr 180 (Operand.tmp 4) 3, type := 0, pos := "work.go:107", after := #[{ on := 12, ground := Ground.guard }], guard := some (12, false) }) (v := .pointer (some ⟨w.heap.size, 3, none⟩)) rfl (by kernel_rfl) (by kernel_rfl) (by kernel_rfl) (fun _ _ _ h => h)
              (Or.inl ⟨by rfl, by intro w hSw;  clear hSw; go_simp⟩) hHeld4 ?_
            try simp only [Act.put, List.setIfInBounds_toArray, List.set_cons_zero, List.set_cons_succ]
            refine wpAnyH_take (i := 14) (oi := { dst := some 53, op := Op.load 3 (Operand.tmp 52), type := 3, pos := "work.go:107", after := #[{ on := 13, ground := Ground.data }, { on := 12, ground := Ground.guard }], guard := some (12, false) }) (v := .int .i64 (dep : Int)) rfl (by kernel_rfl) (by kernel_rfl) (by kernel_rfl) (fun _ _ _ h => h)
              (Or.inl ⟨by rfl, by intro w hSw; have hq := Has.cellAt hSw.1 (i := 3) rfl; clear hSw; go_simp⟩) hHeld4 ?_
            try simp only [Act.put, List.setIfInBounds_toArray, List.set_cons_zero, List.set_cons_succ]
            refine wpAnyH_take (i := 15) (oi := { dst := some 54, op := Op.load 37 (Operand.tmp 5), type := 37, pos := "work.go:107", after := #[{ on := 12, ground := Ground.guard }], guard := some (12, false) }) rfl (by kernel_rfl) (by kernel_rfl) (by kernel_rfl) (fun _ _ _ h => h)
              (yieldsIf_load_mid (by rfl) 37 (.tmp 5) rfl (w.heap.size + 1) (0) rfl ct _ (fun _ h => has_range h.2.1) Tryz.underlying37 rfl HI5.out) hHeld4 ?_
            try simp only [Act.put, List.setIfInBounds_toArray, List.set_cons_zero, List.set_cons_succ]
            refine wpAnyH_ready (rs := [16]) (by kernel_rfl) (by simp) ?_
            refine AllReadyH.cons (o := { dst := some 55, op := Op.call { callee := Callee.value (Operand.func 143), args := #[Operand.tmp 54], argTypes := #[37] }, type := 3, pos := "work.go:107", after := #[{ on := 15, ground := Ground.data }, { on := 12, ground := Ground.chain }, { on := 12, ground := Ground.guard }], guard := some (12, false) }) rfl (fun K hK => ?_) AllReadyH.nil
            go_simp
            refine (height_any lv ct tt w8.drew (HTT.out w8.drew F8.out.drew) HNN.out).mono ?_
            rintro e w9 ⟨rfl, b9⟩
            have F9 : Hid (Fr (p :: db :: (blk vn ++ blk vk)) w w9) := Lib.hid ((F8.out.drew).trans (Fr.of_below (S := []) b9) (fun g hg => by simp at hg))
            have L9 : Hid (Below w8.heap.size w8 w9) := Lib.hid ((Below.refl w8.heap.size w8).drew.trans b9)
            clear b9
            go_wp2_with fail
            refine hK.out _ _ (⟨has_fr (S := []) G8.out (Fr.of_below L9.out) (by simp), has_fr (S := []) T8.out (Fr.of_below L9.out) (by simp), has_fr (S := []) P8.out (Fr.of_below L9.out) (by simp)⟩) (fun hHw1 => ?_)
            clear hK K hHeld4
            try simp only [Act.put, List.setIfInBounds_toArray, List.set_cons_zero, List.set_cons_succ]
            refine wpAnyH_take (i := 17) (oi := { dst := some 56, op := Op.binOp BinOp.add 3 (Operand.tmp 53) (Operand.tmp 55) 3, type := 3, pos := "work.go:107", after := #[{ on := 14, ground := Ground.data }, { on := 16, ground := Ground.data }, { on := 12, ground := Ground.guard }], guard := some (12, false) }) (v := .int .i64 ((dep : Int) + (heightT tt : Int))) rfl (by kernel_rfl) (by kernel_rfl) (by kernel_rfl) (fun _ _ _ h => h)
              (Or.inl ⟨by rfl, by intro w hSw;  clear hSw; go_simp <;> exact z5⟩) hHw1 ?_
            try simp only [Act.put, List.setIfInBounds_toArray, List.set_cons_zero, List.set_cons_succ]
            refine wpAnyH_take (i := 18) (oi := { dst := some 57, op := Op.binOp BinOp.gtr 3 (Operand.tmp 56) (Operand.const (Value.int IntKind.i64 16)) 3, type := 4, pos := "work.go:107", after := #[{ on := 17, ground := Ground.data }, { on := 12, ground := Ground.guard }], guard := some (12, false) }) (v := .bool true) rfl (by kernel_rfl) (by kernel_rfl) (by kernel_rfl) (fun _ _ _ h => h)
              (Or.inl ⟨by rfl, by intro w hSw;  clear hSw; go_simp⟩) hHw1 ?_
            try simp only [Act.put, List.setIfInBounds_toArray, List.set_cons_zero, List.set_cons_succ]
            refine wpAnyH_take (i := 19) (oi := { dst := some 58, op := Op.pick (Operand.tmp 51) (Operand.const (Value.bool true)) (Operand.tmp 57), type := 4, pos := "work.go:107", after := #[{ on := 12, ground := Ground.data }, { on := 18, ground := Ground.data }], guard := none }) (v := .bool true) rfl (by kernel_rfl) (by kernel_rfl) (by kernel_rfl) (fun _ _ _ h => h)
              (Or.inl ⟨by rfl, by intro w hSw;  clear hSw; go_simp⟩) hHw1 ?_
            try simp only [Act.put, List.setIfInBounds_toArray, List.set_cons_zero, List.set_cons_succ]
            refine wpAnyH_done (by kernel_rfl) ?_ _
            clear hHw1
            go_wp2_with fail
            go_ret
            exact RES.out _ _ (by first | (rw [if_pos (Or.inr (Or.inr (by omega)))]; rfl) | (rw [if_neg (by omega)]; rfl)) (F9.out) (L9.out)
          · have z3 : ¬ (16 : Int) < (dep : Int) + (heightT tt : Int) := by omega
            go_wp2_with fail
            refine wp_region_held_drew (S := fun W => Has W w.heap.size (spC db o nm i dep tk) 180 ∧ Has W (w.heap.size + 1) ct 37 ∧ Has W p (wkC c0 c1 c2 e3 e4 (A : Int) (C : Int)) 140) (by kernel_rfl) ⟨G8.out.drew, T8.out.drew, P8.out.drew⟩ (fun hHeld4 => ?_)
            refine wpAnyH_take (i := 0) (oi := { dst := some 39, op := Op.move (Operand.tmp 0), type := 136, pos := "work.go:107", after := #[], guard := none }) (v := .pointer (some ⟨p, 0, none⟩)) rfl (by kernel_rfl) (by kernel_rfl) (by kernel_rfl) (fun _ _ _ h => h)
              (Or.inl ⟨by rfl, by intro w hSw;  clear hSw; go_simp⟩) hHeld4 ?_
            try simp only [Act.put, List.setIfInBounds_toArray, List.set_cons_zero, List.set_cons_succ]
            refine wpAnyH_take (i := 1) (oi := { dst := some 40, op := Op.nilCheck (Operand.tmp 39), type := 0, pos := "work.go:107", after := #[{ on := 0, ground := Ground.data }], guard := none }) (v := .pointer (some ⟨p, 0, none⟩)) rfl (by kernel_rfl) (by kernel_rfl) (by kernel_rfl) (fun _ _ _ h => h)
              (Or.inl ⟨by rfl, by intro w hSw;  clear hSw; go_simp⟩) hHeld4 ?_
            try simp only [Act.put, List.setIfInBounds_toArray, List.set_cons_zero, List.set_cons_succ]
            refine wpAnyH_take (i := 2) (oi := { dst := some 41, op := Op.fieldAddr 140 (Operand.tmp 40) 1, type := 0, pos := "work.go:107", after := #[{ on := 1, ground := Ground.data }], guard := none }) (v := .pointer (some ⟨p, 5, none⟩)) rfl (by kernel_rfl) (by kernel_rfl) (by kernel_rfl) (fun _ _ _ h => h)
              (Or.inl ⟨by rfl, by intro w hSw;  clear hSw; go_simp⟩) hHeld4 ?_
            try simp only [Act.put, List.setIfInBounds_toArray, List.set_cons_zero, List.set_cons_succ]
            refine wpAnyH_take (i := 3) (oi := { dst := some 42, op := Op.load 3 (Operand.tmp 41), type := 3, pos := "work.go:107", after := #[{ on := 2, ground := Ground.data }], guard := none }) (v := .int .i64 (A : Int)) rfl (by kernel_rfl) (by kernel_rfl) (by kernel_rfl) (fun _ _ _ h => h)
              (Or.inl ⟨by rfl, by intro w hSw; have hq := Has.cellAt hSw.2.2 (i := 5) rfl; clear hSw; go_simp⟩) hHeld4 ?_
            try simp only [Act.put, List.setIfInBounds_toArray, List.set_cons_zero, List.set_cons_succ]
            refine wpAnyH_take (i := 4) (oi := { dst := some 43, op := Op.binOp BinOp.gtr 3 (Operand.tmp 42) (Operand.const (Value.int IntKind.i64 4096)) 3, type := 4, pos := "work.go:107", after := #[{ on := 3, ground := Ground.data }], guard := none }) (v := .bool false) rfl (by kernel_rfl) (by kernel_rfl) (by kernel_rfl) (fun _ _ _ h => h)
              (Or.inl ⟨by rfl, by intro w hSw;  clear hSw; go_simp⟩) hHeld4 ?_
            try simp only [Act.put, List.setIfInBounds_toArray, List.set_cons_zero, List.set_cons_succ]
            refine wpAnyH_take (i := 5) (oi := { dst := some 44, op := Op.move (Operand.tmp 43), type := 4, pos := "work.go:107", after := #[{ on := 4, ground := Ground.data }], guard := none }) (v := .bool false) rfl (by kernel_rfl) (by kernel_rfl) (by kernel_rfl) (fun _ _ _ h => h)
              (Or.inl ⟨by rfl, by intro w hSw;  clear hSw; go_simp⟩) hHeld4 ?_
            try simp only [Act.put, List.setIfInBounds_toArray, List.set_cons_zero, List.set_cons_succ]
            refine wpAnyH_take (i := 6) (oi := { dst := some 45, op := Op.move (Operand.tmp 0), type := 136, pos := "work.go:107", after := #[{ on := 5, ground := Ground.guard }], guard := some (5, false) }) (v := .pointer (some ⟨p, 0, none⟩)) rfl (by kernel_rfl) (by kernel_rfl) (by kernel_rfl) (fun _ _ _ h => h)
              (Or.inl ⟨by rfl, by intro w hSw;  clear hSw; go_simp⟩) hHeld4 ?_
            try simp only [Act.put, List.setIfInBounds_toArray, List.set_cons_zero, List.set_cons_succ]
            refine wpAnyH_take (i := 7) (oi := { dst := some 46, op := Op.nilCheck (Operand.tmp 45), type := 0, pos := "work.go:107", after := #[{ on := 6, ground := Ground.data }, { on := 5, ground := Ground.guard }], guard := some (5, false) }) (v := .pointer (some ⟨p, 0, none⟩)) rfl (by kernel_rfl) (by kernel_rfl) (by kernel_rfl) (fun _ _ _ h => h)
              (Or.inl ⟨by rfl, by intro w hSw;  clear hSw; go_simp⟩) hHeld4 ?_
            try simp only [Act.put, List.setIfInBounds_toArray, List.set_cons_zero, List.set_cons_succ]
            refine wpAnyH_take (i := 8) (oi := { dst := some 47, op := Op.fieldAddr 140 (Operand.tmp 46) 2, type := 0, pos := "work.go:107", after := #[{ on := 7, ground := Ground.data }, { on := 5, ground := Ground.guard }], guard := some (5, false) }) (v := .pointer (some ⟨p, 6, none⟩)) rfl (by kernel_rfl) (by kernel_rfl) (by kernel_rfl) (fun _ _ _ h => h)
              (Or.inl ⟨by rfl, by intro w hSw;  clear hSw; go_simp⟩) hHeld4 ?_
            try simp only [Act.put, List.setIfInBounds_toArray, List.set_cons_zero, List.set_cons_succ]
            refine wpAnyH_take (i := 9) (oi := { dst := some 48, op := Op.load 3 (Operand.tmp 47), type := 3, pos := "work.go:107", after := #[{ on := 8, ground := Ground.data }, { on := 5, ground := Ground.guard }], guard := some (5, false) }) (v := .int .i64 (C : Int)) rfl (by kernel_rfl) (by kernel_rfl) (by kernel_rfl) (fun _ _ _ h => h)
              (Or.inl ⟨by rfl, by intro w hSw; have hq := Has.cellAt hSw.2.2 (i := 6) rfl; clear hSw; go_simp⟩) hHeld4 ?_
            try simp only [Act.put, List.setIfInBounds_toArray, List.set_cons_zero, List.set_cons_succ]
            refine wpAnyH_take (i := 10) (oi := { dst := some 49, op := Op.binOp BinOp.gtr 3 (Operand.tmp 48) (Operand.const (Value.int IntKind.i64 65536)) 3, type := 4, pos := "work.go:107", after := #[{ on := 9, ground := Ground.data }, { on := 5, ground := Ground.guard }], guard := some (5, false) }) (v := .bool false) rfl (by kernel_rfl) (by kernel_rfl) (by kernel_rfl) (fun _ _ _ h => h)
              (Or.inl ⟨by rfl, by intro w hSw;  clear hSw; go_simp⟩) hHeld4 ?_
            try simp only [Act.put, List.setIfInBounds_toArray, List.set_cons_zero, List.set_cons_succ]
            refine wpAnyH_take (i := 11) (oi := { dst := some 50, op := Op.pick (Operand.tmp 44) (Operand.const (Value.bool true)) (Operand.tmp 49), type := 4, pos := "work.go:107", after := #[{ on := 5, ground := Ground.data }, { on := 10, ground := Ground.data }], guard := none }) (v := .bool false) rfl (by kernel_rfl) (by kernel_rfl) (by kernel_rfl) (fun _ _ _ h => h)
              (Or.inl ⟨by rfl, by intro w hSw;  clear hSw; go_simp⟩) hHeld4 ?_
            try simp only [Act.put, List.setIfInBounds_toArray, List.set_cons_zero, List.set_cons_succ]
            refine wpAnyH_take (i := 12) (oi := { dst := some 51, op := Op.move (Operand.tmp 50), type := 4, pos := "work.go:107", after := #[{ on := 11, ground := Ground.data }, { on := 5, ground := Ground.chain }], guard := none }) (v := .bool false) rfl (by kernel_rfl) (by kernel_rfl) (by kernel_rfl) (fun _ _ _ h => h)
              (Or.inl ⟨by rfl, by intro w hSw;  clear hSw; go_simp⟩) hHeld4 ?_
            try simp only [Act.put, List.setIfInBounds_toArray, List.set_cons_zero, List.set_cons_succ]
            refine wpAnyH_take (i := 13) (oi := { dst := some 52, op := Op.fieldAddr 180 (Operand.tmp 4) 3, type := 0, pos := "work.go:107", after := #[{ on := 12, ground := Ground.guard }], guard := some (12, false) }) (v := .pointer (some ⟨w.heap.size, 3, none⟩)) rfl (by kernel_rfl) (by kernel_rfl) (by kernel_rfl) (fun _ _ _ h => h)
              (Or.inl ⟨by rfl, by intro w hSw;  clear hSw; go_simp⟩) hHeld4 ?_
            try simp only [Act.put, List.setIfInBounds_toArray, List.set_cons_zero, List.set_cons_succ]
            refine wpAnyH_take (i := 14) (oi := { dst := some 53, op := Op.load 3 (Operand.tmp 52), type := 3, pos := "work.go:107", after := #[{ on := 13, ground := Ground.data }, { on := 12, ground := Ground.guard }], guard := some (12, false) }) (v := .int .i64 (dep : Int)) rfl (by kernel_rfl) (by kernel_rfl) (by kernel_rfl) (fun _ _ _ h => h)
              (Or.inl ⟨by rfl, by intro w hSw; have hq := Has.cellAt hSw.1 (i := 3) rfl; clear hSw; go_simp⟩) hHeld4 ?_
            try simp only [Act.put, List.setIfInBounds_toArray, List.set_cons_zero, List.set_cons_succ]
            refine wpAnyH_take (i := 15) (oi := { dst := some 54, op := Op.load 37 (Operand.tmp 5), type := 37, pos := "work.go:107", after := #[{ on := 12, ground := Ground.guard }], guard := some (12, false) }) rfl (by kernel_rfl) (by kernel_rfl) (by kernel_rfl) (fun _ _ _ h => h)
              (yieldsIf_load_mid (by rfl) 37 (.tmp 5) rfl (w.heap.size + 1) (0) rfl ct _ (fun _ h => has_range h.2.1) Tryz.underlying37 rfl HI5.out) hHeld4 ?_
            try simp only [Act.put, List.setIfInBounds_toArray, List.set_cons_zero, List.set_cons_succ]
            refine wpAnyH_ready (rs := [16]) (by kernel_rfl) (by simp) ?_
            refine AllReadyH.cons (o := { dst := some 55, op := Op.call { callee := Callee.value (Operand.func 143), args := #[Operand.tmp 54], argTypes := #[37] }, type := 3, pos := "work.go:107", after := #[{ on := 15, ground := Ground.data }, { on := 12, ground := Ground.chain }, { on := 12, ground := Ground.guard }], guard := some (12, false) }) rfl (fun K hK => ?_) AllReadyH.nil
            go_simp
            refine (height_any lv ct tt w8.drew (HTT.out w8.drew F8.out.drew) HNN.out).mono ?_
            rintro e w9 ⟨rfl, b9⟩
            have F9 : Hid (Fr (p :: db :: (blk vn ++ blk vk)) w w9) := Lib.hid ((F8.out.drew).trans (Fr.of_below (S := []) b9) (fun g hg => by simp at hg))
            have L9 : Hid (Below w8.heap.size w8 w9) := Lib.hid ((Below.refl w8.heap.size w8).drew.trans b9)
            clear b9
            go_wp2_with fail
            refine hK.out _ _ (⟨has_fr (S := []) G8.out (Fr.of_below L9.out) (by simp), has_fr (S := []) T8.out (Fr.of_below L9.out) (by simp), has_fr (S := []) P8.out (Fr.of_below L9.out) (by simp)⟩) (fun hHw1 => ?_)
            clear hK K hHeld4
            try simp only [Act.put, List.setIfInBounds_toArray, List.set_cons_zero, List.set_cons_succ]
            refine wpAnyH_take (i := 17) (oi := { dst := some 56, op := Op.binOp BinOp.add 3 (Operand.tmp 53) (Operand.tmp 55) 3, type := 3, pos := "work.go:107", after := #[{ on := 14, ground := Ground.data }, { on := 16, ground := Ground.data }, { on := 12, ground := Ground.guard }], guard := some (12, false) }) (v := .int .i64 ((dep : Int) + (heightT tt : Int))) rfl (by kernel_rfl) (by kernel_rfl) (by kernel_rfl) (fun _ _ _ h => h)
              (Or.inl ⟨by rfl, by intro w hSw;  clear hSw; go_simp <;> exact z5⟩) hHw1 ?_
            try simp only [Act.put, List.setIfInBounds_toArray, List.set_cons_zero, List.set_cons_succ]
            refine wpAnyH_take (i := 18) (oi := { dst := some 57, op := Op.binOp BinOp.gtr 3 (Operand.tmp 56) (Operand.const (Value.int IntKind.i64 16)) 3, type := 4, pos := "work.go:107", after := #[{ on := 17, ground := Ground.data }, { on := 12, ground := Ground.guard }], guard := some (12, false) }) (v := .bool false) rfl (by kernel_rfl) (by kernel_rfl) (by kernel_rfl) (fun _ _ _ h => h)
              (Or.inl ⟨by rfl, by intro w hSw;  clear hSw; go_simp⟩) hHw1 ?_
            try simp only [Act.put, List.setIfInBounds_toArray, List.set_cons_zero, List.set_cons_succ]
            refine wpAnyH_take (i := 19) (oi := { dst := some 58, op := Op.pick (Operand.tmp 51) (Operand.const (Value.bool true)) (Operand.tmp 57), type := 4, pos := "work.go:107", after := #[{ on := 12, ground := Ground.data }, { on := 18, ground := Ground.data }], guard := none }) (v := .bool false) rfl (by kernel_rfl) (by kernel_rfl) (by kernel_rfl) (fun _ _ _ h => h)
              (Or.inl ⟨by rfl, by intro w hSw;  clear hSw; go_simp⟩) hHw1 ?_
            try simp only [Act.put, List.setIfInBounds_toArray, List.set_cons_zero, List.set_cons_succ]
            refine wpAnyH_done (by kernel_rfl) ?_ _
            clear hHw1
            go_wp2_with fail
            go_ret
            exact RES.out _ _ (by first | (rw [if_pos (by omega)]; rfl) | (rw [if_neg (by omega)]; rfl)) (F9.out) (L9.out)
    · obtain ⟨tk0, tx0, a1, n1, m1, a2, n2, m2, a3, n3, m3, hsh⟩ := HSH.out
      rw [hsh]
      go_simp
      obtain ⟨w5, hw5⟩ : ∃ w5, w5 = (w4.alloc (.cells #[.int .u8 (tk0.toNat : Int), .bool tx0, .slice a1 n1 m1, .slice a2 n2 m2, .slice a3 n3 m3] 37)).drew := ⟨_, rfl⟩
      have X5 : Hid (Has w5 db (X.set (o + 3) (.slice va vl vc)) ty) := Lib.hid (by rw [hw5]; exact (X4.out.alloc _).drew)
      have G5 : Hid (Has w5 w.heap.size (spC db o nm i dep tk) 180) := Lib.hid (by rw [hw5]; exact (G4.out.alloc _).drew)
      have T5 : Hid (Has w5 (w.heap.size + 1) ct 37) := Lib.hid (by rw [hw5]; exact (T4.out.alloc _).drew)
      have N5 : Hid (w5.ownsRow B tS 1 (.slice va vl vc) (ns.length + 1) ((ns.take i ++ nm :: ns.drop i).map Value.string)) := Lib.hid (by rw [hw5]; exact owns_drew (owns_alloc N4.out _))
      have K5 : Hid (w5.ownsRow B tT 5 vk ns.length L) := Lib.hid (by rw [hw5]; exact owns_drew (owns_alloc K4.out _))
      have V5 : Hid (Has w5 w4.heap.size ct 37) := Lib.hid (by rw [hw5, hsh]; exact (Has.new w4 [.int .u8 (tk0.toNat : Int), .bool tx0, .slice a1 n1 m1, .slice a2 n2 m2, .slice a3 n3 m3] _).drew)
      have F5 : Hid (Fr (db :: blk vn) w w5) := Lib.hid (by rw [hw5]; exact (F4.out.alloc _).drew)
      have S5 : Hid (w5.heap.size = w4.heap.size + 1) := Lib.hid (by rw [hw5]; simp)
      first | rw [← hw5] | skip
      clear hw5 hsh
      refine hK.out _ _ (⟨G5.out, T5.out⟩) (fun hHw1 => ?_)
      clear hK K hHeld2
      try simp only [Act.put, List.setIfInBounds_toArray, List.set_cons_zero, List.set_cons_succ]
      refine wpAnyH_ready (rs := [6]) (by kernel_rfl) (by simp) ?_
      refine AllReadyH.cons (o := { dst := some 28, op := Op.load 35 (Operand.tmp 27), type := 35, pos := "work.go:105", after := #[{ on := 5, ground := Ground.data }], guard := none }) rfl (fun K hK => ?_) AllReadyH.nil
      have q3 : World.cell? w5 ⟨db, o + 4, none⟩ = some vk := Has.cellAt (X5.out) X44.out
      go_simp
      clear q3
      refine hK.out _ _ (⟨G5.out, T5.out⟩) (fun hHw2 => ?_)
      clear hK K hHw1
      try simp only [Act.put, List.setIfInBounds_toArray, List.set_cons_zero, List.set_cons_succ]
      refine wpAnyH_ready (rs := [11]) (by kernel_rfl) (by simp) ?_
      refine AllReadyH.cons (o := { dst := some 33, op := Op.call { callee := Callee.value (Operand.func 141), args := #[Operand.tmp 28, Operand.tmp 30, Operand.tmp 32], argTypes := #[35, 3, 35] }, type := 35, pos := "work.go:105", after := #[{ on := 6, ground := Ground.data }, { on := 8, ground := Ground.data }, { on := 10, ground := Ground.data }], guard := none }) rfl (fun K hK => ?_) AllReadyH.nil
      go_simp
      have hcl := insT_any K5.out (by have := S5.out; have := S4.out; have := HB.out; omega) (by have := HL.out; omega) HI.out (vb := w4.heap.size) V5.out HCT.out (fun e => by have := blk_lt K4.out e; omega) H1L.out H1C.out
      rw [hvk] at hcl
      refine hcl.mono ?_
      rw [← hvk]
      rintro e w6 ⟨VK0, rfl, ho6, hg6, hb6⟩
      obtain ⟨ua, ul, uc, rfl⟩ := slice_owned ho6
      have K6 := Lib.hid ho6
      have N6 : Hid (w6.ownsRow B tS 1 (.slice va vl vc) (ns.length + 1) ((ns.take i ++ nm :: ns.drop i).map Value.string)) := Lib.hid (owns_grown3 N5.out K5.out (by decide) hg6)
      have GR6 : Hid (Fr (blk vk) w5 w6) := Lib.hid (Fr.of_grown hg6 (fun g h => mem_blk.2 h))
      have HVK : Hid (∀ g, (Value.slice ua ul uc).ownBlock = some g → vk.ownBlock = some g ∨ w5.heap.size ≤ g) := Lib.hid hb6
      have S5L : Hid (w.heap.size ≤ w5.heap.size) := Lib.hid (by have := S5.out; have := S4.out; omega)
      have X6 : Hid (Has w6 db (X.set (o + 3) (.slice va vl vc)) ty) := Lib.hid (has_fr X5.out GR6.out (fun h => HKD.out (mem_blk.1 h)))
      have NK : Hid (∀ g, g < w.heap.size + 1 + 1 → w.heap.size ≤ g → g ∉ blk vk) := Lib.hid (fun g h1 h2 h3 => by have := blk_lt HK.out (mem_blk.1 h3); omega)
      have G6 : Hid (Has w6 w.heap.size (spC db o nm i dep tk) 180) := Lib.hid (has_fr G5.out GR6.out (NK.out _ (by omega) (by omega)))
      have T6 : Hid (Has w6 (w.heap.size + 1) ct 37) := Lib.hid (has_fr T5.out GR6.out (NK.out _ (by omega) (by omega)))
      have F6 : Hid (Fr (db :: (blk vn ++ blk vk)) w w6) := Lib.hid ((F5.out.mono (S' := db :: (blk vn ++ blk vk)) (fun g hg _ => by
        rcases List.mem_cons.1 hg with h | h
        · simp [h]
        · simp [h])).trans GR6.out (fun g hg _ => by simp [hg]))
      clear ho6 hg6 hb6 hcl
      go_wp2_with fail
      refine hK.out _ _ (⟨G6.out, T6.out⟩) (fun hHw3 => ?_)
      clear hK K hHw2
      try simp only [Act.put, List.setIfInBounds_toArray, List.set_cons_zero, List.set_cons_succ]
      refine wpAnyH_take (i := 12) (oi := { dst := some 34, op := Op.nilCheck (Operand.tmp 23), type := 0, pos := "work.go:105", after := #[{ on := 1, ground := Ground.data }, { on := 0, ground := Ground.phase }, { on := 1, ground := Ground.phase }, { on := 2, ground := Ground.phase }, { on := 3, ground := Ground.phase }, { on := 4, ground := Ground.phase }, { on := 5, ground := Ground.phase }, { on := 6, ground := Ground.phase }, { on := 7, ground := Ground.phase }, { on := 8, ground := Ground.phase }, { on := 9, ground := Ground.phase }, { on := 10, ground := Ground.phase }, { on := 11, ground := Ground.phase }], guard := none }) (v := .pointer (some ⟨db, o, none⟩)) rfl (by kernel_rfl) (by kernel_rfl) (by kernel_rfl) (fun _ _ _ h => h)
        (Or.inl ⟨by rfl, by intro w hSw;  clear hSw; go_simp⟩) hHw3 ?_
      try simp only [Act.put, List.setIfInBounds_toArray, List.set_cons_zero, List.set_cons_succ]
      refine wpAnyH_take (i := 13) (oi := { dst := some 35, op := Op.fieldAddr 37 (Operand.tmp 34) 4, type := 0, pos := "work.go:105", after := #[{ on := 12, ground := Ground.data }, { on := 0, ground := Ground.phase }, { on := 1, ground := Ground.phase }, { on := 2, ground := Ground.phase }, { on := 3, ground := Ground.phase }, { on := 4, ground := Ground.phase }, { on := 5, ground := Ground.phase }, { on := 6, ground := Ground.phase }, { on := 7, ground := Ground.phase }, { on := 8, ground := Ground.phase }, { on := 9, ground := Ground.phase }, { on := 10, ground := Ground.phase }, { on := 11, ground := Ground.phase }], guard := none }) (v := .pointer (some ⟨db, o + 4, none⟩)) rfl (by kernel_rfl) (by kernel_rfl) (by kernel_rfl) (fun _ _ _ h => h)
        (Or.inl ⟨by rfl, by intro w hSw;  clear hSw; go_simp⟩) hHw3 ?_
      try simp only [Act.put, List.setIfInBounds_toArray, List.set_cons_zero, List.set_cons_succ]
      refine wpAnyH_ready (rs := [14]) (by kernel_rfl) (by simp) ?_
      refine AllReadyH.cons (o := { dst := none, op := Op.store 35 (Operand.tmp 35) (Operand.tmp 33), type := 0, pos := "work.go:105", after := #[{ on := 13, ground := Ground.data }, { on := 11, ground := Ground.data }, { on := 11, ground := Ground.chain }, { on := 0, ground := Ground.phase }, { on := 1, ground := Ground.phase }, { on := 2, ground := Ground.phase }, { on := 3, ground := Ground.phase }, { on := 4, ground := Ground.phase }, { on := 5, ground := Ground.phase }, { on := 6, ground := Ground.phase }, { on := 7, ground := Ground.phase }, { on := 8, ground := Ground.phase }, { on := 9, ground := Ground.phase }, { on := 10, ground := Ground.phase }, { on := 11, ground := Ground.phase }], guard := none }) rfl (fun K hK => ?_) AllReadyH.nil
      have q3 : w6.cell? ⟨db, o + 4, none⟩ = some vk := Has.cellAt X6.out X44.out
      have f3 : w6.frozen? ⟨db, o + 4, none⟩ = false := X6.out.frozen (o + 4)
      go_simp
      clear q3 f3
      obtain ⟨w7, hw7⟩ : ∃ w7, w7 = w6.setCell ⟨db, o + 4, none⟩ (.slice ua ul uc) := ⟨_, rfl⟩
      have X7 : Hid (Has w7 db ((X.set (o + 3) (.slice va vl vc)).set (o + 4) (.slice ua ul uc)) ty) := Lib.hid (by rw [hw7]; exact X6.out.set (o + 4) _)
      have KD7 : Hid ((Value.slice ua ul uc).ownBlock ≠ some db) := Lib.hid (fun e => by
        rcases HVK.out db e with h | h
        · exact HKD.out h
        · have := S5.out; have := S4.out; have := hdl.out; omega)
      have K7 : Hid (w7.ownsRow B tT 5 (.slice ua ul uc) (ns.length + 1) (L.take (i * 5) ++ ct ++ L.drop (i * 5))) := Lib.hid (by rw [hw7]; exact owns_set2 K6.out KD7.out _ _)
      have N7 : Hid (w7.ownsRow B tS 1 (.slice va vl vc) (ns.length + 1) ((ns.take i ++ nm :: ns.drop i).map Value.string)) := Lib.hid (by rw [hw7]; exact owns_set2 N6.out ND4.out _ _)
      have G7 : Hid (Has w7 w.heap.size (spC db o nm i dep tk) 180) := Lib.hid (by rw [hw7]; exact G6.out.setOther (a := ⟨db, o + 4, none⟩) (by have := hdl.out; show w.heap.size ≠ db; omega) _)
      have T7 : Hid (Has w7 (w.heap.size + 1) ct 37) := Lib.hid (by rw [hw7]; exact T6.out.setOther (a := ⟨db, o + 4, none⟩) (by have := hdl.out; show w.heap.size + 1 ≠ db; omega) _)
      have F7 : Hid (Fr (db :: (blk vn ++ blk vk)) w w7) := Lib.hid (by rw [hw7]; exact F6.out.setCell (.inl (by simp)) _ _)
      have S7 : Hid (w.heap.size + 1 + 1 + 1 ≤ w7.heap.size) := Lib.hid (by have h0 := GR6.out.size; have h1 := S4.out; have h2 := S5.out; have h3 : w7.heap.size = w6.heap.size := (by rw [hw7]; simp [World.setCell]); omega)
      first | rw [← hw7] | skip
      clear hw7 X4 N4 K4 G4 T4 F4 X5 N5 K5 G5 T5 F5 X6 N6 K6 G6 T6 F6 V5 GR6
      refine hK.out _ _ (⟨G7.out, T7.out⟩) (fun hHw4 => ?_)
      clear hK K hHw3
      try simp only [Act.put, List.setIfInBounds_toArray, List.set_cons_zero, List.set_cons_succ]
      refine wpAnyH_done (by kernel_rfl) ?_ _
      clear hHw4
      have PP : Hid (∃ e3 e4, Has w7 p (wkC c0 c1 c2 e3 e4 (a : Int) (b : Int)) 140 ∧ (p = db → e3 = .slice va vl vc ∧ e4 = .slice ua ul uc) ∧ (p ≠ db → e3 = c3 ∧ e4 = c4)) := Lib.hid (by
        rcases HPP.out with ⟨rfl, rfl, rfl, rfl⟩ | ⟨h1, h2⟩
        · exact ⟨_, _, X7.out, fun _ => ⟨rfl, rfl⟩, fun h => absurd rfl h⟩
        · refine ⟨c3, c4, has_fr h2 F7.out (fun hm => ?_), fun h => absurd h h1, fun _ => ⟨rfl, rfl⟩⟩
          rcases List.mem_cons.1 hm with h3 | h3
          · exact h1 h3
          · rcases List.mem_append.1 h3 with h4 | h4
            · exact own_type2 HN.out h2 (by decide) (mem_blk.1 h4)
            · exact own_type2 HK.out h2 (by decide) (mem_blk.1 h4))
      obtain ⟨e3, e4, hp7, he1, he2⟩ := PP.out
      have P7 := Lib.hid hp7
      have HE1 := Lib.hid he1
      have HE2 := Lib.hid he2
      have HTC := Lib.hid (show IsT w7 lv ct tt from HTT.out w7 (F7.out.mono (fun g hg _ => List.mem_cons_of_mem _ hg)))
      have T7r : Hid (w7.heap[w.heap.size + 1]? = some (.cells ct.toArray 37 (0, 0))) := Lib.hid (show _ from T7.out)
      have HIA : Hid ((Tryz.prog.info? 37).map (·.size) = some ct.toArray.size) := Lib.hid (by rw [HI5.out]; simp)
      clear hp7 he1 he2 PP
      go_wp2_with (refine wpList_load_row rfl 37 _ rfl (w.heap.size + 1) rfl 37 ct.toArray (0, 0) _ T7r.out Tryz.underlying37 rfl HIA.out ?_)
      refine (count_w lv ct tt w7 p c0 c1 c2 e3 e4 (a : Int) (b : Int) 1 x y HTC.out P7.out HZZ.out (.inl rfl) HBA.out HBB.out).mono ?_
      rintro e w8 ⟨rfl, hp8, hb8⟩
      obtain ⟨A, hA⟩ : ∃ A, A = a + x := ⟨_, rfl⟩
      obtain ⟨C, hC⟩ : ∃ C, C = b + y := ⟨_, rfl⟩
      have P8 : Hid (Has w8 p (wkC c0 c1 c2 e3 e4 (A : Int) (C : Int)) 140) := Lib.hid (by rw [hA, hC, Int.natCast_add, Int.natCast_add]; rw [Int.one_mul, Int.one_mul] at hp8; exact hp8)
      have B8 := Lib.hid hb8
      have HA := Lib.hid hA
      have HC := Lib.hid hC
      have PLT : Hid (p < w7.heap.size) := Lib.hid P7.out.lt
      have PW : Hid (p < w.heap.size) := Lib.hid (by
        rcases HPP.out with ⟨rfl, _, _, _⟩ | ⟨h1, h2⟩
        · exact hdl.out
        · exact h2.lt)
      have F8 : Hid (Fr (p :: db :: (blk vn ++ blk vk)) w w8) := Lib.hid ((F7.out.mono (S' := p :: db :: (blk vn ++ blk vk)) (fun g hg _ => List.mem_cons_of_mem _ hg)).trans (Fr.of_but (S := [p]) hb8 (.inl (by simp))) (fun g hg _ => by simp only [List.mem_cons, List.not_mem_nil, or_false] at hg; simp [hg]))
      have G8 : Hid (Has w8 w.heap.size (spC db o nm i dep tk) 180) := Lib.hid (G7.out.but hb8 G7.out.lt (by have := PW.out; omega))
      have T8 : Hid (Has w8 (w.heap.size + 1) ct 37) := Lib.hid (T7.out.but hb8 T7.out.lt (by have := PW.out; omega))
      have RES : Hid (∀ (e : Ending) (w' : World), e = .returned (.int .i64 (if 4096 < A ∨ 65536 < C ∨ 16 < dep + heightT tt then 2 else 0)) → Fr (p :: db :: (blk vn ++ blk vk)) w w' → Below w8.heap.size w8 w' → LayP w B p db o X L ct ty vn vk c0 c1 c2 c3 c4 ns nm i a b x y dep tt e w') := Lib.hid (fun e w' he hf hl => by
        rw [HA.out, HC.out] at he
        have hP8 : Has w' p (wkC c0 c1 c2 e3 e4 (A : Int) (C : Int)) 140 := has_fr (S := []) P8.out (Fr.of_below hl) (by simp)
        have hl8 : Fr [p] w7 w' := (Fr.of_but (S := [p]) B8.out (.inl (by simp))).trans (Fr.of_below (S := []) hl) (fun g hg => by simp at hg)
        rw [HA.out, HC.out] at hP8
        have hpn : p ∉ blk (Value.slice va vl vc) := fun h => own_type2 N7.out P7.out (by decide) (mem_blk.1 h)
        have hpk : p ∉ blk (Value.slice ua ul uc) := fun h => own_type2 K7.out P7.out (by decide) (mem_blk.1 h)
        refine ⟨.slice va vl vc, .slice ua ul uc, he, fun h => ?_, fun h => ⟨has_fr X7.out hl8 (by simp only [List.mem_cons, List.not_mem_nil, or_false]; exact fun e => h e.symm), ?_⟩, owns_fr N7.out hl8 (fun g hg hm => ?_), owns_fr K7.out hl8 (fun g hg hm => ?_), hf, fun g hg => ?_, fun g hg => ?_⟩
        · obtain ⟨rfl, rfl⟩ := HE1.out h
          exact hP8
        · obtain ⟨rfl, rfl⟩ := HE2.out h
          exact hP8
        · simp only [List.mem_cons, List.not_mem_nil, or_false] at hm
          subst hm
          exact hpn hg
        · simp only [List.mem_cons, List.not_mem_nil, or_false] at hm
          subst hm
          exact hpk hg
        · rcases HVN.out g hg with h | h
          · exact .inl h
          · exact .inr (by have := S2L.out; omega)
        · rcases HVK.out g hg with h | h
          · exact .inl h
          · exact .inr (by have := S5L.out; omega))
      clear hp8 hb8 P7 T7r HTC hA hC B8 N7 K7 X7 G7 T7 F7 HVN HVK
      by_cases q1 : 4096 < A
      · have z1 : (4096 : Int) < (A : Int) := by omega
        go_wp2_with fail
        refine wp_region_held_drew (S := fun W => Has W w.heap.size (spC db o nm i dep tk) 180 ∧ Has W (w.heap.size + 1) ct 37 ∧ Has W p (wkC c0 c1 c2 e3 e4 (A : Int) (C : Int)) 140) (by kernel_rfl) ⟨G8.out.drew, T8.out.drew, P8.out.drew⟩ (fun hHeld4 => ?_)
        refine wpAnyH_take (i := 0) (oi := { dst := some 39, op := Op.move (Operand.tmp 0), type := 136, pos := "work.go:107", after := #[], guard := none }) (v := .pointer (some ⟨p, 0, none⟩)) rfl (by kernel_rfl) (by kernel_rfl) (by kernel_rfl) (fun _ _ _ h => h)
          (Or.inl ⟨by rfl, by intro w hSw;  clear hSw; go_simp⟩) hHeld4 ?_
        try simp only [Act.put, List.setIfInBounds_toArray, List.set_cons_zero, List.set_cons_succ]
        refine wpAnyH_take (i := 1) (oi := { dst := some 40, op := Op.nilCheck (Operand.tmp 39), type := 0, pos := "work.go:107", after := #[{ on := 0, ground := Ground.data }], guard := none }) (v := .pointer (some ⟨p, 0, none⟩)) rfl (by kernel_rfl) (by kernel_rfl) (by kernel_rfl) (fun _ _ _ h => h)
          (Or.inl ⟨by rfl, by intro w hSw;  clear hSw; go_simp⟩) hHeld4 ?_
        try simp only [Act.put, List.setIfInBounds_toArray, List.set_cons_zero, List.set_cons_succ]
        refine wpAnyH_take (i := 2) (oi := { dst := some 41, op := Op.fieldAddr 140 (Operand.tmp 40) 1, type := 0, pos := "work.go:107", after := #[{ on := 1, ground := Ground.data }], guard := none }) (v := .pointer (some ⟨p, 5, none⟩)) rfl (by kernel_rfl) (by kernel_rfl) (by kernel_rfl) (fun _ _ _ h => h)
          (Or.inl ⟨by rfl, by intro w hSw;  clear hSw; go_simp⟩) hHeld4 ?_
        try simp only [Act.put, List.setIfInBounds_toArray, List.set_cons_zero, List.set_cons_succ]
        refine wpAnyH_take (i := 3) (oi := { dst := some 42, op := Op.load 3 (Operand.tmp 41), type := 3, pos := "work.go:107", after := #[{ on := 2, ground := Ground.data }], guard := none }) (v := .int .i64 (A : Int)) rfl (by kernel_rfl) (by kernel_rfl) (by kernel_rfl) (fun _ _ _ h => h)
          (Or.inl ⟨by rfl, by intro w hSw; have hq := Has.cellAt hSw.2.2 (i := 5) rfl; clear hSw; go_simp⟩) hHeld4 ?_
        try simp only [Act.put, List.setIfInBounds_toArray, List.set_cons_zero, List.set_cons_succ]
        refine wpAnyH_take (i := 4) (oi := { dst := some 43, op := Op.binOp BinOp.gtr 3 (Operand.tmp 42) (Operand.const (Value.int IntKind.i64 4096)) 3, type := 4, pos := "work.go:107", after := #[{ on := 3, ground := Ground.data }], guard := none }) (v := .bool true) rfl (by kernel_rfl) (by kernel_rfl) (by kernel_rfl) (fun _ _ _ h => h)
          (Or.inl ⟨by rfl, by intro w hSw;  clear hSw; go_simp⟩) hHeld4 ?_
        try simp only [Act.put, List.setIfInBounds_toArray, List.set_cons_zero, List.set_cons_succ]
        refine wpAnyH_take (i := 5) (oi := { dst := some 44, op := Op.move (Operand.tmp 43), type := 4, pos := "work.go:107", after := #[{ on := 4, ground := Ground.data }], guard := none }) (v := .bool true) rfl (by kernel_rfl) (by kernel_rfl) (by kernel_rfl) (fun _ _ _ h => h)
          (Or.inl ⟨by rfl, by intro w hSw;  clear hSw; go_simp⟩) hHeld4 ?_
        try simp only [Act.put, List.setIfInBounds_toArray, List.set_cons_zero, List.set_cons_succ]
        refine wpAnyH_take (i := 6) (oi := { dst := some 45, op := Op.move (Operand.tmp 0), type := 136, pos := "work.go:107", after := #[{ on := 5, ground := Ground.guard }], guard := some (5, false) }) (v := undef) rfl (by kernel_rfl) (by kernel_rfl) (by kernel_rfl) (fun _ _ _ h => h)
          (Or.inr ⟨by rfl, by rfl⟩) hHeld4 ?_
        try simp only [Act.put, List.setIfInBounds_toArray, List.set_cons_zero, List.set_cons_succ]
        refine wpAnyH_take (i := 7) (oi := { dst := some 46, op := Op.nilCheck (Operand.tmp 45), type := 0, pos := "work.go:107", after := #[{ on := 6, ground := Ground.data }, { on := 5, ground := Ground.guard }], guard := some (5, false) }) (v := undef) rfl (by kernel_rfl) (by kernel_rfl) (by kernel_rfl) (fun _ _ _ h => h)
          (Or.inr ⟨by rfl, by rfl⟩) hHeld4 ?_
        try simp only [Act.put, List.setIfInBounds_toArray, List.set_cons_zero, List.set_cons_succ]
        refine wpAnyH_take (i := 8) (oi := { dst := some 47, op := Op.fieldAddr 140 (Operand.tmp 46) 2, type := 0, pos := "work.go:107", after := #[{ on := 7, ground := Ground.data }, { on := 5, ground := Ground.guard }], guard := some (5, false) }) (v := undef) rfl (by kernel_rfl) (by kernel_rfl) (by kernel_rfl) (fun _ _ _ h => h)
          (Or.inr ⟨by rfl, by rfl⟩) hHeld4 ?_
        try simp only [Act.put, List.setIfInBounds_toArray, List.set_cons_zero, List.set_cons_succ]
        refine wpAnyH_take (i := 9) (oi := { dst := some 48, op := Op.load 3 (Operand.tmp 47), type := 3, pos := "work.go:107", after := #[{ on := 8, ground := Ground.data }, { on := 5, ground := Ground.guard }], guard := some (5, false) }) (v := undef) rfl (by kernel_rfl) (by kernel_rfl) (by kernel_rfl) (fun _ _ _ h => h)
          (Or.inr ⟨by rfl, by rfl⟩) hHeld4 ?_
        try simp only [Act.put, List.setIfInBounds_toArray, List.set_cons_zero, List.set_cons_succ]
        refine wpAnyH_take (i := 10) (oi := { dst := some 49, op := Op.binOp BinOp.gtr 3 (Operand.tmp 48) (Operand.const (Value.int IntKind.i64 65536)) 3, type := 4, pos := "work.go:107", after := #[{ on := 9, ground := Ground.data }, { on := 5, ground := Ground.guard }], guard := some (5, false) }) (v := undef) rfl (by kernel_rfl) (by kernel_rfl) (by kernel_rfl) (fun _ _ _ h => h)
          (Or.inr ⟨by rfl, by rfl⟩) hHeld4 ?_
        try simp only [Act.put, List.setIfInBounds_toArray, List.set_cons_zero, List.set_cons_succ]
        refine wpAnyH_take (i := 11) (oi := { dst := some 50, op := Op.pick (Operand.tmp 44) (Operand.const (Value.bool true)) (Operand.tmp 49), type := 4, pos := "work.go:107", after := #[{ on := 5, ground := Ground.data }, { on := 10, ground := Ground.data }], guard := none }) (v := .bool true) rfl (by kernel_rfl) (by kernel_rfl) (by kernel_rfl) (fun _ _ _ h => h)
          (Or.inl ⟨by rfl, by intro w hSw;  clear hSw; go_simp⟩) hHeld4 ?_
        try simp only [Act.put, List.setIfInBounds_toArray, List.set_cons_zero, List.set_cons_succ]
        refine wpAnyH_take (i := 12) (oi := { dst := some 51, op := Op.move (Operand.tmp 50), type := 4, pos := "work.go:107", after := #[{ on := 11, ground := Ground.data }, { on := 5, ground := Ground.chain }], guard := none }) (v := .bool true) rfl (by kernel_rfl) (by kernel_rfl) (by kernel_rfl) (fun _ _ _ h => h)
          (Or.inl ⟨by rfl, by intro w hSw;  clear hSw; go_simp⟩) hHeld4 ?_
        try simp only [Act.put, List.setIfInBounds_toArray, List.set_cons_zero, List.set_cons_succ]
        refine wpAnyH_take (i := 13) (oi := { dst := some 52, op := Op.fieldAddr 180 (Operand.tmp 4) 3, type := 0, pos := "work.go:107", after := #[{ on := 12, ground := Ground.guard }], guard := some (12, false) }) (v := undef) rfl (by kernel_rfl) (by kernel_rfl) (by kernel_rfl) (fun _ _ _ h => h)
          (Or.inr ⟨by rfl, by rfl⟩) hHeld4 ?_
        try simp only [Act.put, List.setIfInBounds_toArray, List.set_cons_zero, List.set_cons_succ]
        refine wpAnyH_take (i := 14) (oi := { dst := some 53, op := Op.load 3 (Operand.tmp 52), type := 3, pos := "work.go:107", after := #[{ on := 13, ground := Ground.data }, { on := 12, ground := Ground.guard }], guard := some (12, false) }) (v := undef) rfl (by kernel_rfl) (by kernel_rfl) (by kernel_rfl) (fun _ _ _ h => h)
          (Or.inr ⟨by rfl, by rfl⟩) hHeld4 ?_
        try simp only [Act.put, List.setIfInBounds_toArray, List.set_cons_zero, List.set_cons_succ]
        refine wpAnyH_take (i := 15) (oi := { dst := some 54, op := Op.load 37 (Operand.tmp 5), type := 37, pos := "work.go:107", after := #[{ on := 12, ground := Ground.guard }], guard := some (12, false) }) (v := undef) rfl (by kernel_rfl) (by kernel_rfl) (by kernel_rfl) (fun _ _ _ h => h)
          (Or.inr ⟨by rfl, by rfl⟩) hHeld4 ?_
        try simp only [Act.put, List.setIfInBounds_toArray, List.set_cons_zero, List.set_cons_succ]
        refine wpAnyH_take (i := 16) (oi := { dst := some 55, op := Op.call { callee := Callee.value (Operand.func 143), args := #[Operand.tmp 54], argTypes := #[37] }, type := 3, pos := "work.go:107", after := #[{ on := 15, ground := Ground.data }, { on := 12, ground := Ground.chain }, { on := 12, ground := Ground.guard }], guard := some (12, false) }) (v := undef) rfl (by kernel_rfl) (by kernel_rfl) (by kernel_rfl) (fun _ _ _ h => h)
          (Or.inr ⟨by rfl, by rfl⟩) hHeld4 ?_
        try simp only [Act.put, List.setIfInBounds_toArray, List.set_cons_zero, List.set_cons_succ]
        refine wpAnyH_take (i := 17) (oi := { dst := some 56, op := Op.binOp BinOp.add 3 (Operand.tmp 53) (Operand.tmp 55) 3, type := 3, pos := "work.go:107", after := #[{ on := 14, ground := Ground.data }, { on := 16, ground := Ground.data }, { on := 12, ground := Ground.guard }], guard := some (12, false) }) (v := undef) rfl (by kernel_rfl) (by kernel_rfl) (by kernel_rfl) (fun _ _ _ h => h)
          (Or.inr ⟨by rfl, by rfl⟩) hHeld4 ?_
        try simp only [Act.put, List.setIfInBounds_toArray, List.set_cons_zero, List.set_cons_succ]
        refine wpAnyH_take (i := 18) (oi := { dst := some 57, op := Op.binOp BinOp.gtr 3 (Operand.tmp 56) (Operand.const (Value.int IntKind.i64 16)) 3, type := 4, pos := "work.go:107", after := #[{ on := 17, ground := Ground.data }, { on := 12, ground := Ground.guard }], guard := some (12, false) }) (v := undef) rfl (by kernel_rfl) (by kernel_rfl) (by kernel_rfl) (fun _ _ _ h => h)
          (Or.inr ⟨by rfl, by rfl⟩) hHeld4 ?_
        try simp only [Act.put, List.setIfInBounds_toArray, List.set_cons_zero, List.set_cons_succ]
        refine wpAnyH_take (i := 19) (oi := { dst := some 58, op := Op.pick (Operand.tmp 51) (Operand.const (Value.bool true)) (Operand.tmp 57), type := 4, pos := "work.go:107", after := #[{ on := 12, ground := Ground.data }, { on := 18, ground := Ground.data }], guard := none }) (v := .bool true) rfl (by kernel_rfl) (by kernel_rfl) (by kernel_rfl) (fun _ _ _ h => h)
          (Or.inl ⟨by rfl, by intro w hSw;  clear hSw; go_simp⟩) hHeld4 ?_
        try simp only [Act.put, List.setIfInBounds_toArray, List.set_cons_zero, List.set_cons_succ]
        refine wpAnyH_done (by kernel_rfl) ?_ _
        clear hHeld4
        go_wp2_with fail
        go_ret
        exact RES.out _ _ (by first | (rw [if_pos (Or.inl (by omega))]; rfl) | (rw [if_neg (by omega)]; rfl)) (F8.out.drew) ((Below.refl w8.heap.size w8).drew)
      · have z1 : ¬ (4096 : Int) < (A : Int) := by omega
        by_cases q2 : 65536 < C
        · have z2 : (65536 : Int) < (C : Int) := by omega
          go_wp2_with fail
          refine wp_region_held_drew (S := fun W => Has W w.heap.size (spC db o nm i dep tk) 180 ∧ Has W (w.heap.size + 1) ct 37 ∧ Has W p (wkC c0 c1 c2 e3 e4 (A : Int) (C : Int)) 140) (by kernel_rfl) ⟨G8.out.drew, T8.out.drew, P8.out.drew⟩ (fun hHeld4 => ?_)
          refine wpAnyH_take (i := 0) (oi := { dst := some 39, op := Op.move (Operand.tmp 0), type := 136, pos := "work.go:107", after := #[], guard := none }) (v := .pointer (some ⟨p, 0, none⟩)) rfl (by kernel_rfl) (by kernel_rfl) (by kernel_rfl) (fun _ _ _ h => h)
            (Or.inl ⟨by rfl, by intro w hSw;  clear hSw; go_simp⟩) hHeld4 ?_
          try simp only [Act.put, List.setIfInBounds_toArray, List.set_cons_zero, List.set_cons_succ]
          refine wpAnyH_take (i := 1) (oi := { dst := some 40, op := Op.nilCheck (Operand.tmp 39), type := 0, pos := "work.go:107", after := #[{ on := 0, ground := Ground.data }], guard := none }) (v := .pointer (some ⟨p, 0, none⟩)) rfl (by kernel_rfl) (by kernel_rfl) (by kernel_rfl) (fun _ _ _ h => h)
            (Or.inl ⟨by rfl, by intro w hSw;  clear hSw; go_simp⟩) hHeld4 ?_
          try simp only [Act.put, List.setIfInBounds_toArray, List.set_cons_zero, List.set_cons_succ]
          refine wpAnyH_take (i := 2) (oi := { dst := some 41, op := Op.fieldAddr 140 (Operand.tmp 40) 1, type := 0, pos := "work.go:107", after := #[{ on := 1, ground := Ground.data }], guard := none }) (v := .pointer (some ⟨p, 5, none⟩)) rfl (by kernel_rfl) (by kernel_rfl) (by kernel_rfl) (fun _ _ _ h => h)
            (Or.inl ⟨by rfl, by intro w hSw;  clear hSw; go_simp⟩) hHeld4 ?_
          try simp only [Act.put, List.setIfInBounds_toArray, List.set_cons_zero, List.set_cons_succ]
          refine wpAnyH_take (i := 3) (oi := { dst := some 42, op := Op.load 3 (Operand.tmp 41), type := 3, pos := "work.go:107", after := #[{ on := 2, ground := Ground.data }], guard := none }) (v := .int .i64 (A : Int)) rfl (by kernel_rfl) (by kernel_rfl) (by kernel_rfl) (fun _ _ _ h => h)
            (Or.inl ⟨by rfl, by intro w hSw; have hq := Has.cellAt hSw.2.2 (i := 5) rfl; clear hSw; go_simp⟩) hHeld4 ?_
          try simp only [Act.put, List.setIfInBounds_toArray, List.set_cons_zero, List.set_cons_succ]
          refine wpAnyH_take (i := 4) (oi := { dst := some 43, op := Op.binOp BinOp.gtr 3 (Operand.tmp 42) (Operand.const (Value.int IntKind.i64 4096)) 3, type := 4, pos := "work.go:107", after := #[{ on := 3, ground := Ground.data }], guard := none }) (v := .bool false) rfl (by kernel_rfl) (by kernel_rfl) (by kernel_rfl) (fun _ _ _ h => h)
            (Or.inl ⟨by rfl, by intro w hSw;  clear hSw; go_simp⟩) hHeld4 ?_
          try simp only [Act.put, List.setIfInBounds_toArray, List.set_cons_zero, List.set_cons_succ]
          refine wpAnyH_take (i := 5) (oi := { dst := some 44, op := Op.move (Operand.tmp 43), type := 4, pos := "work.go:107", after := #[{ on := 4, ground := Ground.data }], guard := none }) (v := .bool false) rfl (by kernel_rfl) (by kernel_rfl) (by kernel_rfl) (fun _ _ _ h => h)
            (Or.inl ⟨by rfl, by intro w hSw;  clear hSw; go_simp⟩) hHeld4 ?_
          try simp only [Act.put, List.setIfInBounds_toArray, List.set_cons_zero, List.set_cons_succ]
          refine wpAnyH_take (i := 6) (oi := { dst := some 45, op := Op.move (Operand.tmp 0), type := 136, pos := "work.go:107", after := #[{ on := 5, ground := Ground.guard }], guard := some (5, false) }) (v := .pointer (some ⟨p, 0, none⟩)) rfl (by kernel_rfl) (by kernel_rfl) (by kernel_rfl) (fun _ _ _ h => h)
            (Or.inl ⟨by rfl, by intro w hSw;  clear hSw; go_simp⟩) hHeld4 ?_
          try simp only [Act.put, List.setIfInBounds_toArray, List.set_cons_zero, List.set_cons_succ]
          refine wpAnyH_take (i := 7) (oi := { dst := some 46, op := Op.nilCheck (Operand.tmp 45), type := 0, pos := "work.go:107", after := #[{ on := 6, ground := Ground.data }, { on := 5, ground := Ground.guard }], guard := some (5, false) }) (v := .pointer (some ⟨p, 0, none⟩)) rfl (by kernel_rfl) (by kernel_rfl) (by kernel_rfl) (fun _ _ _ h => h)
            (Or.inl ⟨by rfl, by intro w hSw;  clear hSw; go_simp⟩) hHeld4 ?_
          try simp only [Act.put, List.setIfInBounds_toArray, List.set_cons_zero, List.set_cons_succ]
          refine wpAnyH_take (i := 8) (oi := { dst := some 47, op := Op.fieldAddr 140 (Operand.tmp 46) 2, type := 0, pos := "work.go:107", after := #[{ on := 7, ground := Ground.data }, { on := 5, ground := Ground.guard }], guard := some (5, false) }) (v := .pointer (some ⟨p, 6, none⟩)) rfl (by kernel_rfl) (by kernel_rfl) (by kernel_rfl) (fun _ _ _ h => h)
            (Or.inl ⟨by rfl, by intro w hSw;  clear hSw; go_simp⟩) hHeld4 ?_
          try simp only [Act.put, List.setIfInBounds_toArray, List.set_cons_zero, List.set_cons_succ]
          refine wpAnyH_take (i := 9) (oi := { dst := some 48, op := Op.load 3 (Operand.tmp 47), type := 3, pos := "work.go:107", after := #[{ on := 8, ground := Ground.data }, { on := 5, ground := Ground.guard }], guard := some (5, false) }) (v := .int .i64 (C : Int)) rfl (by kernel_rfl) (by kernel_rfl) (by kernel_rfl) (fun _ _ _ h => h)
            (Or.inl ⟨by rfl, by intro w hSw; have hq := Has.cellAt hSw.2.2 (i := 6) rfl; clear hSw; go_simp⟩) hHeld4 ?_
          try simp only [Act.put, List.setIfInBounds_toArray, List.set_cons_zero, List.set_cons_succ]
          refine wpAnyH_take (i := 10) (oi := { dst := some 49, op := Op.binOp BinOp.gtr 3 (Operand.tmp 48) (Operand.const (Value.int IntKind.i64 65536)) 3, type := 4, pos := "work.go:107", after := #[{ on := 9, ground := Ground.data }, { on := 5, ground := Ground.guard }], guard := some (5, false) }) (v := .bool true) rfl (by kernel_rfl) (by kernel_rfl) (by kernel_rfl) (fun _ _ _ h => h)
            (Or.inl ⟨by rfl, by intro w hSw;  clear hSw; go_simp⟩) hHeld4 ?_
          try simp only [Act.put, List.setIfInBounds_toArray, List.set_cons_zero, List.set_cons_succ]
          refine wpAnyH_take (i := 11) (oi := { dst := some 50, op := Op.pick (Operand.tmp 44) (Operand.const (Value.bool true)) (Operand.tmp 49), type := 4, pos := "work.go:107", after := #[{ on := 5, ground := Ground.data }, { on := 10, ground := Ground.data }], guard := none }) (v := .bool true) rfl (by kernel_rfl) (by kernel_rfl) (by kernel_rfl) (fun _ _ _ h => h)
            (Or.inl ⟨by rfl, by intro w hSw;  clear hSw; go_simp⟩) hHeld4 ?_
          try simp only [Act.put, List.setIfInBounds_toArray, List.set_cons_zero, List.set_cons_succ]
          refine wpAnyH_take (i := 12) (oi := { dst := some 51, op := Op.move (Operand.tmp 50), type := 4, pos := "work.go:107", after := #[{ on := 11, ground := Ground.data }, { on := 5, ground := Ground.chain }], guard := none }) (v := .bool true) rfl (by kernel_rfl) (by kernel_rfl) (by kernel_rfl) (fun _ _ _ h => h)
            (Or.inl ⟨by rfl, by intro w hSw;  clear hSw; go_simp⟩) hHeld4 ?_
          try simp only [Act.put, List.setIfInBounds_toArray, List.set_cons_zero, List.set_cons_succ]
          refine wpAnyH_take (i := 13) (oi := { dst := some 52, op := Op.fieldAddr 180 (Operand.tmp 4) 3, type := 0, pos := "work.go:107", after := #[{ on := 12, ground := Ground.guard }], guard := some (12, false) }) (v := undef) rfl (by kernel_rfl) (by kernel_rfl) (by kernel_rfl) (fun _ _ _ h => h)
            (Or.inr ⟨by rfl, by rfl⟩) hHeld4 ?_
          try simp only [Act.put, List.setIfInBounds_toArray, List.set_cons_zero, List.set_cons_succ]
          refine wpAnyH_take (i := 14) (oi := { dst := some 53, op := Op.load 3 (Operand.tmp 52), type := 3, pos := "work.go:107", after := #[{ on := 13, ground := Ground.data }, { on := 12, ground := Ground.guard }], guard := some (12, false) }) (v := undef) rfl (by kernel_rfl) (by kernel_rfl) (by kernel_rfl) (fun _ _ _ h => h)
            (Or.inr ⟨by rfl, by rfl⟩) hHeld4 ?_
          try simp only [Act.put, List.setIfInBounds_toArray, List.set_cons_zero, List.set_cons_succ]
          refine wpAnyH_take (i := 15) (oi := { dst := some 54, op := Op.load 37 (Operand.tmp 5), type := 37, pos := "work.go:107", after := #[{ on := 12, ground := Ground.guard }], guard := some (12, false) }) (v := undef) rfl (by kernel_rfl) (by kernel_rfl) (by kernel_rfl) (fun _ _ _ h => h)
            (Or.inr ⟨by rfl, by rfl⟩) hHeld4 ?_
          try simp only [Act.put, List.setIfInBounds_toArray, List.set_cons_zero, List.set_cons_succ]
          refine wpAnyH_take (i := 16) (oi := { dst := some 55, op := Op.call { callee := Callee.value (Operand.func 143), args := #[Operand.tmp 54], argTypes := #[37] }, type := 3, pos := "work.go:107", after := #[{ on := 15, ground := Ground.data }, { on := 12, ground := Ground.chain }, { on := 12, ground := Ground.guard }], guard := some (12, false) }) (v := undef) rfl (by kernel_rfl) (by kernel_rfl) (by kernel_rfl) (fun _ _ _ h => h)
            (Or.inr ⟨by rfl, by rfl⟩) hHeld4 ?_
          try simp only [Act.put, List.setIfInBounds_toArray, List.set_cons_zero, List.set_cons_succ]
          refine wpAnyH_take (i := 17) (oi := { dst := some 56, op := Op.binOp BinOp.add 3 (Operand.tmp 53) (Operand.tmp 55) 3, type := 3, pos := "work.go:107", after := #[{ on := 14, ground := Ground.data }, { on := 16, ground := Ground.data }, { on := 12, ground := Ground.guard }], guard := some (12, false) }) (v := undef) rfl (by kernel_rfl) (by kernel_rfl) (by kernel_rfl) (fun _ _ _ h => h)
            (Or.inr ⟨by rfl, by rfl⟩) hHeld4 ?_
          try simp only [Act.put, List.setIfInBounds_toArray, List.set_cons_zero, List.set_cons_succ]
          refine wpAnyH_take (i := 18) (oi := { dst := some 57, op := Op.binOp BinOp.gtr 3 (Operand.tmp 56) (Operand.const (Value.int IntKind.i64 16)) 3, type := 4, pos := "work.go:107", after := #[{ on := 17, ground := Ground.data }, { on := 12, ground := Ground.guard }], guard := some (12, false) }) (v := undef) rfl (by kernel_rfl) (by kernel_rfl) (by kernel_rfl) (fun _ _ _ h => h)
            (Or.inr ⟨by rfl, by rfl⟩) hHeld4 ?_
          try simp only [Act.put, List.setIfInBounds_toArray, List.set_cons_zero, List.set_cons_succ]
          refine wpAnyH_take (i := 19) (oi := { dst := some 58, op := Op.pick (Operand.tmp 51) (Operand.const (Value.bool true)) (Operand.tmp 57), type := 4, pos := "work.go:107", after := #[{ on := 12, ground := Ground.data }, { on := 18, ground := Ground.data }], guard := none }) (v := .bool true) rfl (by kernel_rfl) (by kernel_rfl) (by kernel_rfl) (fun _ _ _ h => h)
            (Or.inl ⟨by rfl, by intro w hSw;  clear hSw; go_simp⟩) hHeld4 ?_
          try simp only [Act.put, List.setIfInBounds_toArray, List.set_cons_zero, List.set_cons_succ]
          refine wpAnyH_done (by kernel_rfl) ?_ _
          clear hHeld4
          go_wp2_with fail
          go_ret
          exact RES.out _ _ (by first | (rw [if_pos (Or.inr (Or.inl (by omega)))]; rfl) | (rw [if_neg (by omega)]; rfl)) (F8.out.drew) ((Below.refl w8.heap.size w8).drew)
        · have z2 : ¬ (65536 : Int) < (C : Int) := by omega
          have z4 : (dep : Int) + (heightT tt : Int) ≤ 9223372036854775807 ∧ 0 ≤ (heightT tt : Int) ∧ 0 ≤ (dep : Int) := ⟨by have h1 := heightT_lt tt; have h2 := HNN.out; have h3 := HDP.out; omega, by omega, by omega⟩
          have z5 : IntKind.i64.wrap ((dep : Int) + (heightT tt : Int)) = (dep : Int) + (heightT tt : Int) := by rw [IntKind.wrap_i64]; omega
          by_cases q3 : 16 < dep + heightT tt
          · have z3 : (16 : Int) < (dep : Int) + (heightT tt : Int) := by omega
            go_wp2_with fail
            refine wp_region_held_drew (S := fun W => Has W w.heap.size (spC db o nm i dep tk) 180 ∧ Has W (w.heap.size + 1) ct 37 ∧ Has W p (wkC c0 c1 c2 e3 e4 (A : Int) (C : Int)) 140) (by kernel_rfl) ⟨G8.out.drew, T8.out.drew, P8.out.drew⟩ (fun hHeld4 => ?_)
            refine wpAnyH_take (i := 0) (oi := { dst := some 39, op := Op.move (Operand.tmp 0), type := 136, pos := "work.go:107", after := #[], guard := none }) (v := .pointer (some ⟨p, 0, none⟩)) rfl (by kernel_rfl) (by kernel_rfl) (by kernel_rfl) (fun _ _ _ h => h)
              (Or.inl ⟨by rfl, by intro w hSw;  clear hSw; go_simp⟩) hHeld4 ?_
            try simp only [Act.put, List.setIfInBounds_toArray, List.set_cons_zero, List.set_cons_succ]
            refine wpAnyH_take (i := 1) (oi := { dst := some 40, op := Op.nilCheck (Operand.tmp 39), type := 0, pos := "work.go:107", after := #[{ on := 0, ground := Ground.data }], guard := none }) (v := .pointer (some ⟨p, 0, none⟩)) rfl (by kernel_rfl) (by kernel_rfl) (by kernel_rfl) (fun _ _ _ h => h)
              (Or.inl ⟨by rfl, by intro w hSw;  clear hSw; go_simp⟩) hHeld4 ?_
            try simp only [Act.put, List.setIfInBounds_toArray, List.set_cons_zero, List.set_cons_succ]
            refine wpAnyH_take (i := 2) (oi := { dst := some 41, op := Op.fieldAddr 140 (Operand.tmp 40) 1, type := 0, pos := "work.go:107", after := #[{ on := 1, ground := Ground.data }], guard := none }) (v := .pointer (some ⟨p, 5, none⟩)) rfl (by kernel_rfl) (by kernel_rfl) (by kernel_rfl) (fun _ _ _ h => h)
              (Or.inl ⟨by rfl, by intro w hSw;  clear hSw; go_simp⟩) hHeld4 ?_
            try simp only [Act.put, List.setIfInBounds_toArray, List.set_cons_zero, List.set_cons_succ]
            refine wpAnyH_take (i := 3) (oi := { dst := some 42, op := Op.load 3 (Operand.tmp 41), type := 3, pos := "work.go:107", after := #[{ on := 2, ground := Ground.data }], guard := none }) (v := .int .i64 (A : Int)) rfl (by kernel_rfl) (by kernel_rfl) (by kernel_rfl) (fun _ _ _ h => h)
              (Or.inl ⟨by rfl, by intro w hSw; have hq := Has.cellAt hSw.2.2 (i := 5) rfl; clear hSw; go_simp⟩) hHeld4 ?_
            try simp only [Act.put, List.setIfInBounds_toArray, List.set_cons_zero, List.set_cons_succ]
            refine wpAnyH_take (i := 4) (oi := { dst := some 43, op := Op.binOp BinOp.gtr 3 (Operand.tmp 42) (Operand.const (Value.int IntKind.i64 4096)) 3, type := 4, pos := "work.go:107", after := #[{ on := 3, ground := Ground.data }], guard := none }) (v := .bool false) rfl (by kernel_rfl) (by kernel_rfl) (by kernel_rfl) (fun _ _ _ h => h)
              (Or.inl ⟨by rfl, by intro w hSw;  clear hSw; go_simp⟩) hHeld4 ?_
            try simp only [Act.put, List.setIfInBounds_toArray, List.set_cons_zero, List.set_cons_succ]
            refine wpAnyH_take (i := 5) (oi := { dst := some 44, op := Op.move (Operand.tmp 43), type := 4, pos := "work.go:107", after := #[{ on := 4, ground := Ground.data }], guard := none }) (v := .bool false) rfl (by kernel_rfl) (by kernel_rfl) (by kernel_rfl) (fun _ _ _ h => h)
              (Or.inl ⟨by rfl, by intro w hSw;  clear hSw; go_simp⟩) hHeld4 ?_
            try simp only [Act.put, List.setIfInBounds_toArray, List.set_cons_zero, List.set_cons_succ]
            refine wpAnyH_take (i := 6) (oi := { dst := some 45, op := Op.move (Operand.tmp 0), type := 136, pos := "work.go:107", after := #[{ on := 5, ground := Ground.guard }], guard := some (5, false) }) (v := .pointer (some ⟨p, 0, none⟩)) rfl (by kernel_rfl) (by kernel_rfl) (by kernel_rfl) (fun _ _ _ h => h)
              (Or.inl ⟨by rfl, by intro w hSw;  clear hSw; go_simp⟩) hHeld4 ?_
            try simp only [Act.put, List.setIfInBounds_toArray, List.set_cons_zero, List.set_cons_succ]
            refine wpAnyH_take (i := 7) (oi := { dst := some 46, op := Op.nilCheck (Operand.tmp 45), type := 0, pos := "work.go:107", after := #[{ on := 6, ground := Ground.data }, { on := 5, ground := Ground.guard }], guard := some (5, false) }) (v := .pointer (some ⟨p, 0, none⟩)) rfl (by kernel_rfl) (by kernel_rfl) (by kernel_rfl) (fun _ _ _ h => h)
              (Or.inl ⟨by rfl, by intro w hSw;  clear hSw; go_simp⟩) hHeld4 ?_
            try simp only [Act.put, List.setIfInBounds_toArray, List.set_cons_zero, List.set_cons_succ]
            refine wpAnyH_take (i := 8) (oi := { dst := some 47, op := Op.fieldAddr 140 (Operand.tmp 46) 2, type := 0, pos := "work.go:107", after := #[{ on := 7, ground := Ground.data }, { on := 5, ground := Ground.guard }], guard := some (5, false) }) (v := .pointer (some ⟨p, 6, none⟩)) rfl (by kernel_rfl) (by kernel_rfl) (by kernel_rfl) (fun _ _ _ h => h)
              (Or.inl ⟨by rfl, by intro w hSw;  clear hSw; go_simp⟩) hHeld4 ?_
            try simp only [Act.put, List.setIfInBounds_toArray, List.set_cons_zero, List.set_cons_succ]
            refine wpAnyH_take (i := 9) (oi := { dst := some 48, op := Op.load 3 (Operand.tmp 47), type := 3, pos := "work.go:107", after := #[{ on := 8, ground := Ground.data }, { on := 5, ground := Ground.guard }], guard := some (5, false) }) (v := .int .i64 (C : Int)) rfl (by kernel_rfl) (by kernel_rfl) (by kernel_rfl) (fun _ _ _ h => h)
              (Or.inl ⟨by rfl, by intro w hSw; have hq := Has.cellAt hSw.2.2 (i := 6) rfl; clear hSw; go_simp⟩) hHeld4 ?_
            try simp only [Act.put, List.setIfInBounds_toArray, List.set_cons_zero, List.set_cons_succ]
            refine wpAnyH_take (i := 10) (oi := { dst := some 49, op := Op.binOp BinOp.gtr 3 (Operand.tmp 48) (Operand.const (Value.int IntKind.i64 65536)) 3, type := 4, pos := "work.go:107", after := #[{ on := 9, ground := Ground.data }, { on := 5, ground := Ground.guard }], guard := some (5, false) }) (v := .bool false) rfl (by kernel_rfl) (by kernel_rfl) (by kernel_rfl) (fun _ _ _ h => h)
              (Or.inl ⟨by rfl, by intro w hSw;  clear hSw; go_simp⟩) hHeld4 ?_
            try simp only [Act.put, List.setIfInBounds_toArray, List.set_cons_zero, List.set_cons_succ]
            refine wpAnyH_take (i := 11) (oi := { dst := some 50, op := Op.pick (Operand.tmp 44) (Operand.const (Value.bool true)) (Operand.tmp 49), type := 4, pos := "work.go:107", after := #[{ on := 5, ground := Ground.data }, { on := 10, ground := Ground.data }], guard := none }) (v := .bool false) rfl (by kernel_rfl) (by kernel_rfl) (by kernel_rfl) (fun _ _ _ h => h)
              (Or.inl ⟨by rfl, by intro w hSw;  clear hSw; go_simp⟩) hHeld4 ?_
            try simp only [Act.put, List.setIfInBounds_toArray, List.set_cons_zero, List.set_cons_succ]
            refine wpAnyH_take (i := 12) (oi := { dst := some 51, op := Op.move (Operand.tmp 50), type := 4, pos := "work.go:107", after := #[{ on := 11, ground := Ground.data }, { on := 5, ground := Ground.chain }], guard := none }) (v := .bool false) rfl (by kernel_rfl) (by kernel_rfl) (by kernel_rfl) (fun _ _ _ h => h)
              (Or.inl ⟨by rfl, by intro w hSw;  clear hSw; go_simp⟩) hHeld4 ?_
            try simp only [Act.put, List.setIfInBounds_toArray, List.set_cons_zero, List.set_cons_succ]
            refine wpAnyH_take (i := 13) (oi := { dst := some 52, op := Op.fieldAddr 180 (Operand.tmp 4) 3, type := 0, pos := "work.go:107", after := #[{ on := 12, ground := Ground.guard }], guard := some (12, false) }) (v := .pointer (some ⟨w.heap.size, 3, none⟩)) rfl (by kernel_rfl) (by kernel_rfl) (by kernel_rfl) (fun _ _ _ h => h)
              (Or.inl ⟨by rfl, by intro w hSw;  clear hSw; go_simp⟩) hHeld4 ?_
            try simp only [Act.put, List.setIfInBounds_toArray, List.set_cons_zero, List.set_cons_succ]
            refine wpAnyH_take (i := 14) (oi := { dst := some 53, op := Op.load 3 (Operand.tmp 52), type := 3, pos := "work.go:107", after := #[{ on := 13, ground := Ground.data }, { on := 12, ground := Ground.guard }], guard := some (12, false) }) (v := .int .i64 (dep : Int)) rfl (by kernel_rfl) (by kernel_rfl) (by kernel_rfl) (fun _ _ _ h => h)
              (Or.inl ⟨by rfl, by intro w hSw; have hq := Has.cellAt hSw.1 (i := 3) rfl; clear hSw; go_simp⟩) hHeld4 ?_
            try simp only [Act.put, List.setIfInBounds_toArray, List.set_cons_zero, List.set_cons_succ]
            refine wpAnyH_take (i := 15) (oi := { dst := some 54, op := Op.load 37 (Operand.tmp 5), type := 37, pos := "work.go:107", after := #[{ on := 12, ground := Ground.guard }], guard := some (12, false) }) rfl (by kernel_rfl) (by kernel_rfl) (by kernel_rfl) (fun _ _ _ h => h)
              (yieldsIf_load_mid (by rfl) 37 (.tmp 5) rfl (w.heap.size + 1) (0) rfl ct _ (fun _ h => has_range h.2.1) Tryz.underlying37 rfl HI5.out) hHeld4 ?_
            try simp only [Act.put, List.setIfInBounds_toArray, List.set_cons_zero, List.set_cons_succ]
            refine wpAnyH_ready (rs := [16]) (by kernel_rfl) (by simp) ?_
            refine AllReadyH.cons (o := { dst := some 55, op := Op.call { callee := Callee.value (Operand.func 143), args := #[Operand.tmp 54], argTypes := #[37] }, type := 3, pos := "work.go:107", after := #[{ on := 15, ground := Ground.data }, { on := 12, ground := Ground.chain }, { on := 12, ground := Ground.guard }], guard := some (12, false) }) rfl (fun K hK => ?_) AllReadyH.nil
            go_simp
            refine (height_any lv ct tt w8.drew (HTT.out w8.drew F8.out.drew) HNN.out).mono ?_
            rintro e w9 ⟨rfl, b9⟩
            have F9 : Hid (Fr (p :: db :: (blk vn ++ blk vk)) w w9) := Lib.hid ((F8.out.drew).trans (Fr.of_below (S := []) b9) (fun g hg => by simp at hg))
            have L9 : Hid (Below w8.heap.size w8 w9) := Lib.hid ((Below.refl w8.heap.size w8).drew.trans b9)
            clear b9
            go_wp2_with fail
            refine hK.out _ _ (⟨has_fr (S := []) G8.out (Fr.of_below L9.out) (by simp), has_fr (S := []) T8.out (Fr.of_below L9.out) (by simp), has_fr (S := []) P8.out (Fr.of_below L9.out) (by simp)⟩) (fun hHw1 => ?_)
            clear hK K hHeld4
            try simp only [Act.put, List.setIfInBounds_toArray, List.set_cons_zero, List.set_cons_succ]
            refine wpAnyH_take (i := 17) (oi := { dst := some 56, op := Op.binOp BinOp.add 3 (Operand.tmp 53) (Operand.tmp 55) 3, type := 3, pos := "work.go:107", after := #[{ on := 14, ground := Ground.data }, { on := 16, ground := Ground.data }, { on := 12, ground := Ground.guard }], guard := some (12, false) }) (v := .int .i64 ((dep : Int) + (heightT tt : Int))) rfl (by kernel_rfl) (by kernel_rfl) (by kernel_rfl) (fun _ _ _ h => h)
              (Or.inl ⟨by rfl, by intro w hSw;  clear hSw; go_simp <;> exact z5⟩) hHw1 ?_
            try simp only [Act.put, List.setIfInBounds_toArray, List.set_cons_zero, List.set_cons_succ]
            refine wpAnyH_take (i := 18) (oi := { dst := some 57, op := Op.binOp BinOp.gtr 3 (Operand.tmp 56) (Operand.const (Value.int IntKind.i64 16)) 3, type := 4, pos := "work.go:107", after := #[{ on := 17, ground := Ground.data }, { on := 12, ground := Ground.guard }], guard := some (12, false) }) (v := .bool true) rfl (by kernel_rfl) (by kernel_rfl) (by kernel_rfl) (fun _ _ _ h => h)
              (Or.inl ⟨by rfl, by intro w hSw;  clear hSw; go_simp⟩) hHw1 ?_
            try simp only [Act.put, List.setIfInBounds_toArray, List.set_cons_zero, List.set_cons_succ]
            refine wpAnyH_take (i := 19) (oi := { dst := some 58, op := Op.pick (Operand.tmp 51) (Operand.const (Value.bool true)) (Operand.tmp 57), type := 4, pos := "work.go:107", after := #[{ on := 12, ground := Ground.data }, { on := 18, ground := Ground.data }], guard := none }) (v := .bool true) rfl (by kernel_rfl) (by kernel_rfl) (by kernel_rfl) (fun _ _ _ h => h)
              (Or.inl ⟨by rfl, by intro w hSw;  clear hSw; go_simp⟩) hHw1 ?_
            try simp only [Act.put, List.setIfInBounds_toArray, List.set_cons_zero, List.set_cons_succ]
            refine wpAnyH_done (by kernel_rfl) ?_ _
            clear hHw1
            go_wp2_with fail
            go_ret
            exact RES.out _ _ (by first | (rw [if_pos (Or.inr (Or.inr (by omega)))]; rfl) | (rw [if_neg (by omega)]; rfl)) (F9.out) (L9.out)
          · have z3 : ¬ (16 : Int) < (dep : Int) + (heightT tt : Int) := by omega
            go_wp2_with fail
            refine wp_region_held_drew (S := fun W => Has W w.heap.size (spC db o nm i dep tk) 180 ∧ Has W (w.heap.size + 1) ct 37 ∧ Has W p (wkC c0 c1 c2 e3 e4 (A : Int) (C : Int)) 140) (by kernel_rfl) ⟨G8.out.drew, T8.out.drew, P8.out.drew⟩ (fun hHeld4 => ?_)
            refine wpAnyH_take (i := 0) (oi := { dst := some 39, op := Op.move (Operand.tmp 0), type := 136, pos := "work.go:107", after := #[], guard := none }) (v := .pointer (some ⟨p, 0, none⟩)) rfl (by kernel_rfl) (by kernel_rfl) (by kernel_rfl) (fun _ _ _ h => h)
              (Or.inl ⟨by rfl, by intro w hSw;  clear hSw; go_simp⟩) hHeld4 ?_
            try simp only [Act.put, List.setIfInBounds_toArray, List.set_cons_zero, List.set_cons_succ]
            refine wpAnyH_take (i := 1) (oi := { dst := some 40, op := Op.nilCheck (Operand.tmp 39), type := 0, pos := "work.go:107", after := #[{ on := 0, ground := Ground.data }], guard := none }) (v := .pointer (some ⟨p, 0, none⟩)) rfl (by kernel_rfl) (by kernel_rfl) (by kernel_rfl) (fun _ _ _ h => h)
              (Or.inl ⟨by rfl, by intro w hSw;  clear hSw; go_simp⟩) hHeld4 ?_
            try simp only [Act.put, List.setIfInBounds_toArray, List.set_cons_zero, List.set_cons_succ]
            refine wpAnyH_take (i := 2) (oi := { dst := some 41, op := Op.fieldAddr 140 (Operand.tmp 40) 1, type := 0, pos := "work.go:107", after := #[{ on := 1, ground := Ground.data }], guard := none }) (v := .pointer (some ⟨p, 5, none⟩)) rfl (by kernel_rfl) (by kernel_rfl) (by kernel_rfl) (fun _ _ _ h => h)
              (Or.inl ⟨by rfl, by intro w hSw;  clear hSw; go_simp⟩) hHeld4 ?_
            try simp only [Act.put, List.setIfInBounds_toArray, List.set_cons_zero, List.set_cons_succ]
            refine wpAnyH_take (i := 3) (oi := { dst := some 42, op := Op.load 3 (Operand.tmp 41), type := 3, pos := "work.go:107", after := #[{ on := 2, ground := Ground.data }], guard := none }) (v := .int .i64 (A : Int)) rfl (by kernel_rfl) (by kernel_rfl) (by kernel_rfl) (fun _ _ _ h => h)
              (Or.inl ⟨by rfl, by intro w hSw; have hq := Has.cellAt hSw.2.2 (i := 5) rfl; clear hSw; go_simp⟩) hHeld4 ?_
            try simp only [Act.put, List.setIfInBounds_toArray, List.set_cons_zero, List.set_cons_succ]
            refine wpAnyH_take (i := 4) (oi := { dst := some 43, op := Op.binOp BinOp.gtr 3 (Operand.tmp 42) (Operand.const (Value.int IntKind.i64 4096)) 3, type := 4, pos := "work.go:107", after := #[{ on := 3, ground := Ground.data }], guard := none }) (v := .bool false) rfl (by kernel_rfl) (by kernel_rfl) (by kernel_rfl) (fun _ _ _ h => h)
              (Or.inl ⟨by rfl, by intro w hSw;  clear hSw; go_simp⟩) hHeld4 ?_
            try simp only [Act.put, List.setIfInBounds_toArray, List.set_cons_zero, List.set_cons_succ]
            refine wpAnyH_take (i := 5) (oi := { dst := some 44, op := Op.move (Operand.tmp 43), type := 4, pos := "work.go:107", after := #[{ on := 4, ground := Ground.data }], guard := none }) (v := .bool false) rfl (by kernel_rfl) (by kernel_rfl) (by kernel_rfl) (fun _ _ _ h => h)
              (Or.inl ⟨by rfl, by intro w hSw;  clear hSw; go_simp⟩) hHeld4 ?_
            try simp only [Act.put, List.setIfInBounds_toArray, List.set_cons_zero, List.set_cons_succ]
            refine wpAnyH_take (i := 6) (oi := { dst := some 45, op := Op.move (Operand.tmp 0), type := 136, pos := "work.go:107", after := #[{ on := 5, ground := Ground.guard }], guard := some (5, false) }) (v := .pointer (some ⟨p, 0, none⟩)) rfl (by kernel_rfl) (by kernel_rfl) (by kernel_rfl) (fun _ _ _ h => h)
              (Or.inl ⟨by rfl, by intro w hSw;  clear hSw; go_simp⟩) hHeld4 ?_
            try simp only [Act.put, List.setIfInBounds_toArray, List.set_cons_zero, List.set_cons_succ]
            refine wpAnyH_take (i := 7) (oi := { dst := some 46, op := Op.nilCheck (Operand.tmp 45), type := 0, pos := "work.go:107", after := #[{ on := 6, ground := Ground.data }, { on := 5, ground := Ground.guard }], guard := some (5, false) }) (v := .pointer (some ⟨p, 0, none⟩)) rfl (by kernel_rfl) (by kernel_rfl) (by kernel_rfl) (fun _ _ _ h => h)
              (Or.inl ⟨by rfl, by intro w hSw;  clear hSw; go_simp⟩) hHeld4 ?_
            try simp only [Act.put, List.setIfInBounds_toArray, List.set_cons_zero, List.set_cons_succ]
            refine wpAnyH_take (i := 8) (oi := { dst := some 47, op := Op.fieldAddr 140 (Operand.tmp 46) 2, type := 0, pos := "work.go:107", after := #[{ on := 7, ground := Ground.data }, { on := 5, ground := Ground.guard }], guard := some (5, false) }) (v := .pointer (some ⟨p, 6, none⟩)) rfl (by kernel_rfl) (by kernel_rfl) (by kernel_rfl) (fun _ _ _ h => h)
              (Or.inl ⟨by rfl, by intro w hSw;  clear hSw; go_simp⟩) hHeld4 ?_
            try simp only [Act.put, List.setIfInBounds_toArray, List.set_cons_zero, List.set_cons_succ]
            refine wpAnyH_take (i := 9) (oi := { dst := some 48, op := Op.load 3 (Operand.tmp 47), type := 3, pos := "work.go:107", after := #[{ on := 8, ground := Ground.data }, { on := 5, ground := Ground.guard }], guard := some (5, false) }) (v := .int .i64 (C : Int)) rfl (by kernel_rfl) (by kernel_rfl) (by kernel_rfl) (fun _ _ _ h => h)
              (Or.inl ⟨by rfl, by intro w hSw; have hq := Has.cellAt hSw.2.2 (i := 6) rfl; clear hSw; go_simp⟩) hHeld4 ?_
            try simp only [Act.put, List.setIfInBounds_toArray, List.set_cons_zero, List.set_cons_succ]
            refine wpAnyH_take (i := 10) (oi := { dst := some 49, op := Op.binOp BinOp.gtr 3 (Operand.tmp 48) (Operand.const (Value.int IntKind.i64 65536)) 3, type := 4, pos := "work.go:107", after := #[{ on := 9, ground := Ground.data }, { on := 5, ground := Ground.guard }], guard := some (5, false) }) (v := .bool false) rfl (by kernel_rfl) (by kernel_rfl) (by kernel_rfl) (fun _ _ _ h => h)
              (Or.inl ⟨by rfl, by intro w hSw;  clear hSw; go_simp⟩) hHeld4 ?_
            try simp only [Act.put, List.setIfInBounds_toArray, List.set_cons_zero, List.set_cons_succ]
            refine wpAnyH_take (i := 11) (oi := { dst := some 50, op := Op.pick (Operand.tmp 44) (Operand.const (Value.bool true)) (Operand.tmp 49), type := 4, pos := "work.go:107", after := #[{ on := 5, ground := Ground.data }, { on := 10, ground := Ground.data }], guard := none }) (v := .bool false) rfl (by kernel_rfl) (by kernel_rfl) (by kernel_rfl) (fun _ _ _ h => h)
              (Or.inl ⟨by rfl, by intro w hSw;  clear hSw; go_simp⟩) hHeld4 ?_
            try simp only [Act.put, List.setIfInBounds_toArray, List.set_cons_zero, List.set_cons_succ]
            refine wpAnyH_take (i := 12) (oi := { dst := some 51, op := Op.move (Operand.tmp 50), type := 4, pos := "work.go:107", after := #[{ on := 11, ground := Ground.data }, { on := 5, ground := Ground.chain }], guard := none }) (v := .bool false) rfl (by kernel_rfl) (by kernel_rfl) (by kernel_rfl) (fun _ _ _ h => h)
              (Or.inl ⟨by rfl, by intro w hSw;  clear hSw; go_simp⟩) hHeld4 ?_
            try simp only [Act.put, List.setIfInBounds_toArray, List.set_cons_zero, List.set_cons_succ]
            refine wpAnyH_take (i := 13) (oi := { dst := some 52, op := Op.fieldAddr 180 (Operand.tmp 4) 3, type := 0, pos := "work.go:107", after := #[{ on := 12, ground := Ground.guard }], guard := some (12, false) }) (v := .pointer (some ⟨w.heap.size, 3, none⟩)) rfl (by kernel_rfl) (by kernel_rfl) (by kernel_rfl) (fun _ _ _ h => h)
              (Or.inl ⟨by rfl, by intro w hSw;  clear hSw; go_simp⟩) hHeld4 ?_
            try simp only [Act.put, List.setIfInBounds_toArray, List.set_cons_zero, List.set_cons_succ]
            refine wpAnyH_take (i := 14) (oi := { dst := some 53, op := Op.load 3 (Operand.tmp 52), type := 3, pos := "work.go:107", after := #[{ on := 13, ground := Ground.data }, { on := 12, ground := Ground.guard }], guard := some (12, false) }) (v := .int .i64 (dep : Int)) rfl (by kernel_rfl) (by kernel_rfl) (by kernel_rfl) (fun _ _ _ h => h)
              (Or.inl ⟨by rfl, by intro w hSw; have hq := Has.cellAt hSw.1 (i := 3) rfl; clear hSw; go_simp⟩) hHeld4 ?_
            try simp only [Act.put, List.setIfInBounds_toArray, List.set_cons_zero, List.set_cons_succ]
            refine wpAnyH_take (i := 15) (oi := { dst := some 54, op := Op.load 37 (Operand.tmp 5), type := 37, pos := "work.go:107", after := #[{ on := 12, ground := Ground.guard }], guard := some (12, false) }) rfl (by kernel_rfl) (by kernel_rfl) (by kernel_rfl) (fun _ _ _ h => h)
              (yieldsIf_load_mid (by rfl) 37 (.tmp 5) rfl (w.heap.size + 1) (0) rfl ct _ (fun _ h => has_range h.2.1) Tryz.underlying37 rfl HI5.out) hHeld4 ?_
            try simp only [Act.put, List.setIfInBounds_toArray, List.set_cons_zero, List.set_cons_succ]
            refine wpAnyH_ready (rs := [16]) (by kernel_rfl) (by simp) ?_
            refine AllReadyH.cons (o := { dst := some 55, op := Op.call { callee := Callee.value (Operand.func 143), args := #[Operand.tmp 54], argTypes := #[37] }, type := 3, pos := "work.go:107", after := #[{ on := 15, ground := Ground.data }, { on := 12, ground := Ground.chain }, { on := 12, ground := Ground.guard }], guard := some (12, false) }) rfl (fun K hK => ?_) AllReadyH.nil
            go_simp
            refine (height_any lv ct tt w8.drew (HTT.out w8.drew F8.out.drew) HNN.out).mono ?_
            rintro e w9 ⟨rfl, b9⟩
            have F9 : Hid (Fr (p :: db :: (blk vn ++ blk vk)) w w9) := Lib.hid ((F8.out.drew).trans (Fr.of_below (S := []) b9) (fun g hg => by simp at hg))
            have L9 : Hid (Below w8.heap.size w8 w9) := Lib.hid ((Below.refl w8.heap.size w8).drew.trans b9)
            clear b9
            go_wp2_with fail
            refine hK.out _ _ (⟨has_fr (S := []) G8.out (Fr.of_below L9.out) (by simp), has_fr (S := []) T8.out (Fr.of_below L9.out) (by simp), has_fr (S := []) P8.out (Fr.of_below L9.out) (by simp)⟩) (fun hHw1 => ?_)
            clear hK K hHeld4
            try simp only [Act.put, List.setIfInBounds_toArray, List.set_cons_zero, List.set_cons_succ]
            refine wpAnyH_take (i := 17) (oi := { dst := some 56, op := Op.binOp BinOp.add 3 (Operand.tmp 53) (Operand.tmp 55) 3, type := 3, pos := "work.go:107", after := #[{ on := 14, ground := Ground.data }, { on := 16, ground := Ground.data }, { on := 12, ground := Ground.guard }], guard := some (12, false) }) (v := .int .i64 ((dep : Int) + (heightT tt : Int))) rfl (by kernel_rfl) (by kernel_rfl) (by kernel_rfl) (fun _ _ _ h => h)
              (Or.inl ⟨by rfl, by intro w hSw;  clear hSw; go_simp <;> exact z5⟩) hHw1 ?_
            try simp only [Act.put, List.setIfInBounds_toArray, List.set_cons_zero, List.set_cons_succ]
            refine wpAnyH_take (i := 18) (oi := { dst := some 57, op := Op.binOp BinOp.gtr 3 (Operand.tmp 56) (Operand.const (Value.int IntKind.i64 16)) 3, type := 4, pos := "work.go:107", after := #[{ on := 17, ground := Ground.data }, { on := 12, ground := Ground.guard }], guard := some (12, false) }) (v := .bool false) rfl (by kernel_rfl) (by kernel_rfl) (by kernel_rfl) (fun _ _ _ h => h)
              (Or.inl ⟨by rfl, by intro w hSw;  clear hSw; go_simp⟩) hHw1 ?_
            try simp only [Act.put, List.setIfInBounds_toArray, List.set_cons_zero, List.set_cons_succ]
            refine wpAnyH_take (i := 19) (oi := { dst := some 58, op := Op.pick (Operand.tmp 51) (Operand.const (Value.bool true)) (Operand.tmp 57), type := 4, pos := "work.go:107", after := #[{ on := 12, ground := Ground.data }, { on := 18, ground := Ground.data }], guard := none }) (v := .bool false) rfl (by kernel_rfl) (by kernel_rfl) (by kernel_rfl) (fun _ _ _ h => h)
              (Or.inl ⟨by rfl, by intro w hSw;  clear hSw; go_simp⟩) hHw1 ?_
            try simp only [Act.put, List.setIfInBounds_toArray, List.set_cons_zero, List.set_cons_succ]
            refine wpAnyH_done (by kernel_rfl) ?_ _
            clear hHw1
            go_wp2_with fail
            go_ret
            exact RES.out _ _ (by first | (rw [if_pos (by omega)]; rfl) | (rw [if_neg (by omega)]; rfl)) (F9.out) (L9.out)
  · go_simp
    obtain ⟨w2, hw2⟩ : ∃ w2, w2 = (w1.alloc (.cells #[.string nm] 9)).drew := ⟨_, rfl⟩
    have X2 : Hid (Has w2 db X ty) := Lib.hid (by rw [hw2]; exact (X1.out.alloc _).drew)
    have G2 : Hid (Has w2 w.heap.size (spC db o nm i dep tk) 180) := Lib.hid (by rw [hw2]; exact (G1.out.alloc _).drew)
    have T2 : Hid (Has w2 (w.heap.size + 1) ct 37) := Lib.hid (by rw [hw2]; exact (T1.out.alloc _).drew)
    have N2 : Hid (w2.ownsRow B tS 1 vn ns.length (ns.map Value.string)) := Lib.hid (by rw [hw2]; exact owns_drew (owns_alloc N1.out _))
    have K2 : Hid (w2.ownsRow B tT 5 vk ns.length L) := Lib.hid (by rw [hw2]; exact owns_drew (owns_alloc K1.out _))
    have V2 : Hid (Has w2 (w.heap.size + 1 + 1) [.string nm] 9) := Lib.hid (by rw [hw2, ← S1.out]; exact (Has.new w1 _ _).drew)
    have F2 : Hid (Fr [db] w w2) := Lib.hid (by rw [hw2]; exact (F1.out.alloc _).drew)
    have S2 : Hid (w2.heap.size = w.heap.size + 1 + 1 + 1) := Lib.hid (by rw [hw2]; simp [S1.out])
    first | rw [← hw2] | skip
    clear hw2
    refine hK.out _ _ (G2.out) (fun hHw1 => ?_)
    clear hK K hHeld
    try simp only [Act.put, List.setIfInBounds_toArray, List.set_cons_zero, List.set_cons_succ]
    refine wpAnyH_ready (rs := [6]) (by kernel_rfl) (by simp) ?_
    refine AllReadyH.cons (o := { dst := some 13, op := Op.load 34 (Operand.tmp 12), type := 34, pos := "work.go:104", after := #[{ on := 5, ground := Ground.data }], guard := none }) rfl (fun K hK => ?_) AllReadyH.nil
    have q3 : World.cell? w2 ⟨db, o + 3, none⟩ = some vn := Has.cellAt (X2.out) HX3.out
    go_simp
    clear q3
    refine hK.out _ _ (G2.out) (fun hHw2 => ?_)
    clear hK K hHw1
    try simp only [Act.put, List.setIfInBounds_toArray, List.set_cons_zero, List.set_cons_succ]
    refine wpAnyH_ready (rs := [12]) (by kernel_rfl) (by simp) ?_
    refine AllReadyH.cons (o := { dst := some 19, op := Op.call { callee := Callee.value (Operand.func 140), args := #[Operand.tmp 13, Operand.tmp 15, Operand.tmp 18], argTypes := #[34, 3, 34] }, type := 34, pos := "work.go:104", after := #[{ on := 6, ground := Ground.data }, { on := 8, ground := Ground.data }, { on := 11, ground := Ground.data }], guard := none }) rfl (fun K hK => ?_) AllReadyH.nil
    go_simp
    have hcl := insS_any N2.out (by have := S2.out; have := HB.out; omega) (by have := HL.out; omega) HI.out (vb := w1.heap.size) (by rw [S1.out]; exact V2.out) (fun e => by have := blk_lt N1.out e; omega)
    rw [hvn] at hcl
    refine hcl.mono ?_
    rw [← hvn]
    rintro e w3 ⟨VN0, rfl, ho3, hg3, hb3⟩
    obtain ⟨va, vl, vc, rfl⟩ := slice_owned ho3
    have N3 := Lib.hid ho3
    have K3 : Hid (w3.ownsRow B tT 5 vk ns.length L) := Lib.hid (owns_grown3 K2.out N2.out (by decide) hg3)
    have GR3 : Hid (Fr (blk vn) w2 w3) := Lib.hid (Fr.of_grown hg3 (fun g h => mem_blk.2 h))
    have HVN : Hid (∀ g, (Value.slice va vl vc).ownBlock = some g → vn.ownBlock = some g ∨ w2.heap.size ≤ g) := Lib.hid hb3
    have S2L : Hid (w.heap.size ≤ w2.heap.size) := Lib.hid (by have := S2.out; omega)
    have X3 : Hid (Has w3 db X ty) := Lib.hid (has_fr X2.out GR3.out (fun h => HND.out (mem_blk.1 h)))
    have NB : Hid (∀ g, g < w.heap.size + 1 + 1 → w.heap.size ≤ g → g ∉ blk vn) := Lib.hid (fun g h1 h2 h3 => by have := blk_lt HN.out (mem_blk.1 h3); omega)
    have G3 : Hid (Has w3 w.heap.size (spC db o nm i dep tk) 180) := Lib.hid (has_fr G2.out GR3.out (NB.out _ (by omega) (by omega)))
    have T3 : Hid (Has w3 (w.heap.size + 1) ct 37) := Lib.hid (has_fr T2.out GR3.out (NB.out _ (by omega) (by omega)))
    have F3 : Hid (Fr (db :: blk vn) w w3) := Lib.hid ((F2.out.mono (S' := db :: blk vn) (fun g hg _ => by simp only [List.mem_cons, List.not_mem_nil, or_false] at hg; simp [hg])).trans GR3.out (fun g hg _ => by simp [hg]))
    clear ho3 hg3 hb3 hcl
    go_wp2_with fail
    refine hK.out _ _ (G3.out) (fun hHw3 => ?_)
    clear hK K hHw2
    try simp only [Act.put, List.setIfInBounds_toArray, List.set_cons_zero, List.set_cons_succ]
    refine wpAnyH_take (i := 13) (oi := { dst := some 20, op := Op.nilCheck (Operand.tmp 8), type := 0, pos := "work.go:104", after := #[{ on := 1, ground := Ground.data }, { on := 0, ground := Ground.phase }, { on := 1, ground := Ground.phase }, { on := 2, ground := Ground.phase }, { on := 3, ground := Ground.phase }, { on := 4, ground := Ground.phase }, { on := 5, ground := Ground.phase }, { on := 6, ground := Ground.phase }, { on := 7, ground := Ground.phase }, { on := 8, ground := Ground.phase }, { on := 9, ground := Ground.phase }, { on := 10, ground := Ground.phase }, { on := 11, ground := Ground.phase }, { on := 12, ground := Ground.phase }], guard := none }) (v := .pointer (some ⟨db, o, none⟩)) rfl (by kernel_rfl) (by kernel_rfl) (by kernel_rfl) (fun _ _ _ h => h)
      (Or.inl ⟨by rfl, by intro w hSw;  clear hSw; go_simp⟩) hHw3 ?_
    try simp only [Act.put, List.setIfInBounds_toArray, List.set_cons_zero, List.set_cons_succ]
    refine wpAnyH_take (i := 14) (oi := { dst := some 21, op := Op.fieldAddr 37 (Operand.tmp 20) 3, type := 0, pos := "work.go:104", after := #[{ on := 13, ground := Ground.data }, { on := 0, ground := Ground.phase }, { on := 1, ground := Ground.phase }, { on := 2, ground := Ground.phase }, { on := 3, ground := Ground.phase }, { on := 4, ground := Ground.phase }, { on := 5, ground := Ground.phase }, { on := 6, ground := Ground.phase }, { on := 7, ground := Ground.phase }, { on := 8, ground := Ground.phase }, { on := 9, ground := Ground.phase }, { on := 10, ground := Ground.phase }, { on := 11, ground := Ground.phase }, { on := 12, ground := Ground.phase }], guard := none }) (v := .pointer (some ⟨db, o + 3, none⟩)) rfl (by kernel_rfl) (by kernel_rfl) (by kernel_rfl) (fun _ _ _ h => h)
      (Or.inl ⟨by rfl, by intro w hSw;  clear hSw; go_simp⟩) hHw3 ?_
    try simp only [Act.put, List.setIfInBounds_toArray, List.set_cons_zero, List.set_cons_succ]
    refine wpAnyH_ready (rs := [15]) (by kernel_rfl) (by simp) ?_
    refine AllReadyH.cons (o := { dst := none, op := Op.store 34 (Operand.tmp 21) (Operand.tmp 19), type := 0, pos := "work.go:104", after := #[{ on := 14, ground := Ground.data }, { on := 12, ground := Ground.data }, { on := 12, ground := Ground.chain }, { on := 0, ground := Ground.phase }, { on := 1, ground := Ground.phase }, { on := 2, ground := Ground.phase }, { on := 3, ground := Ground.phase }, { on := 4, ground := Ground.phase }, { on := 5, ground := Ground.phase }, { on := 6, ground := Ground.phase }, { on := 7, ground := Ground.phase }, { on := 8, ground := Ground.phase }, { on := 9, ground := Ground.phase }, { on := 10, ground := Ground.phase }, { on := 11, ground := Ground.phase }, { on := 12, ground := Ground.phase }], guard := none }) rfl (fun K hK => ?_) AllReadyH.nil
    have q3 : w3.cell? ⟨db, o + 3, none⟩ = some vn := Has.cellAt X3.out HX3.out
    have f3 : w3.frozen? ⟨db, o + 3, none⟩ = false := X3.out.frozen (o + 3)
    go_simp
    clear q3 f3
    obtain ⟨w4, hw4⟩ : ∃ w4, w4 = w3.setCell ⟨db, o + 3, none⟩ (.slice va vl vc) := ⟨_, rfl⟩
    have X4 : Hid (Has w4 db (X.set (o + 3) (.slice va vl vc)) ty) := Lib.hid (by rw [hw4]; exact X3.out.set (o + 3) _)
    have ND4 : Hid ((Value.slice va vl vc).ownBlock ≠ some db) := Lib.hid (fun e => by
      rcases HVN.out db e with h | h
      · exact HND.out h
      · have := S2.out; have := hdl.out; omega)
    have N4 : Hid (w4.ownsRow B tS 1 (.slice va vl vc) (ns.length + 1) ((ns.take i ++ nm :: ns.drop i).map Value.string)) := Lib.hid (by rw [hw4]; exact owns_set2 N3.out ND4.out _ _)
    have K4 : Hid (w4.ownsRow B tT 5 vk ns.length L) := Lib.hid (by rw [hw4]; exact owns_set2 K3.out HKD.out _ _)
    have G4 : Hid (Has w4 w.heap.size (spC db o nm i dep tk) 180) := Lib.hid (by rw [hw4]; exact G3.out.setOther (a := ⟨db, o + 3, none⟩) (by have := hdl.out; show w.heap.size ≠ db; omega) _)
    have T4 : Hid (Has w4 (w.heap.size + 1) ct 37) := Lib.hid (by rw [hw4]; exact T3.out.setOther (a := ⟨db, o + 3, none⟩) (by have := hdl.out; show w.heap.size + 1 ≠ db; omega) _)
    have F4 : Hid (Fr (db :: blk vn) w w4) := Lib.hid (by rw [hw4]; exact F3.out.setCell (.inl (by simp)) _ _)
    have S4 : Hid (w.heap.size + 1 + 1 + 1 ≤ w4.heap.size) := Lib.hid (by have h1 := GR3.out.size; have h2 := S2.out; have h3 : w4.heap.size = w3.heap.size := (by rw [hw4]; simp [World.setCell]); omega)
    first | rw [← hw4] | skip
    clear hw4 X3 N3 K3 G3 T3 F3 X2 N2 K2 G2 T2 F2 V2 GR3
    refine hK.out _ _ (G4.out) (fun hHw4 => ?_)
    clear hK K hHw3
    try simp only [Act.put, List.setIfInBounds_toArray, List.set_cons_zero, List.set_cons_succ]
    refine wpAnyH_done (by kernel_rfl) ?_ _
    clear hHw4
    have X44 : Hid ((X.set (o + 3) (.slice va vl vc))[o + 4]? = some vk) := Lib.hid (by rw [List.getElem?_set, if_neg (by omega)]; exact HX4.out)
    go_upto_region 2 with fail
    refine wp_region_held_drew (S := fun W => Has W w.heap.size (spC db o nm i dep tk) 180 ∧ Has W (w.heap.size + 1) ct 37) (by kernel_rfl) ⟨G4.out.drew, T4.out.drew⟩ (fun hHeld2 => ?_)
    refine wpAnyH_take (i := 0) (oi := { dst := some 22, op := Op.fieldAddr 180 (Operand.tmp 4) 0, type := 0, pos := "work.go:105", after := #[], guard := none }) (v := .pointer (some ⟨w.heap.size, 0, none⟩)) rfl (by kernel_rfl) (by kernel_rfl) (by kernel_rfl) (fun _ _ _ h => h)
      (Or.inl ⟨by rfl, by intro w hSw;  clear hSw; go_simp⟩) hHeld2 ?_
    try simp only [Act.put, List.setIfInBounds_toArray, List.set_cons_zero, List.set_cons_succ]
    refine wpAnyH_take (i := 1) (oi := { dst := some 23, op := Op.load 94 (Operand.tmp 22), type := 94, pos := "work.go:105", after := #[{ on := 0, ground := Ground.data }], guard := none }) (v := .pointer (some ⟨db, o, none⟩)) rfl (by kernel_rfl) (by kernel_rfl) (by kernel_rfl) (fun _ _ _ h => h)
      (Or.inl ⟨by rfl, by intro w hSw; have hq := Has.cellAt hSw.1 (i := 0) rfl; clear hSw; go_simp⟩) hHeld2 ?_
    try simp only [Act.put, List.setIfInBounds_toArray, List.set_cons_zero, List.set_cons_succ]
    refine wpAnyH_take (i := 2) (oi := { dst := some 24, op := Op.fieldAddr 180 (Operand.tmp 4) 0, type := 0, pos := "work.go:105", after := #[], guard := none }) (v := .pointer (some ⟨w.heap.size, 0, none⟩)) rfl (by kernel_rfl) (by kernel_rfl) (by kernel_rfl) (fun _ _ _ h => h)
      (Or.inl ⟨by rfl, by intro w hSw;  clear hSw; go_simp⟩) hHeld2 ?_
    try simp only [Act.put, List.setIfInBounds_toArray, List.set_cons_zero, List.set_cons_succ]
    refine wpAnyH_take (i := 3) (oi := { dst := some 25, op := Op.load 94 (Operand.tmp 24), type := 94, pos := "work.go:105", after := #[{ on := 2, ground := Ground.data }], guard := none }) (v := .pointer (some ⟨db, o, none⟩)) rfl (by kernel_rfl) (by kernel_rfl) (by kernel_rfl) (fun _ _ _ h => h)
      (Or.inl ⟨by rfl, by intro w hSw; have hq := Has.cellAt hSw.1 (i := 0) rfl; clear hSw; go_simp⟩) hHeld2 ?_
    try simp only [Act.put, List.setIfInBounds_toArray, List.set_cons_zero, List.set_cons_succ]
    refine wpAnyH_take (i := 4) (oi := { dst := some 26, op := Op.nilCheck (Operand.tmp 25), type := 0, pos := "work.go:105", after := #[{ on := 3, ground := Ground.data }], guard := none }) (v := .pointer (some ⟨db, o, none⟩)) rfl (by kernel_rfl) (by kernel_rfl) (by kernel_rfl) (fun _ _ _ h => h)
      (Or.inl ⟨by rfl, by intro w hSw;  clear hSw; go_simp⟩) hHeld2 ?_
    try simp only [Act.put, List.setIfInBounds_toArray, List.set_cons_zero, List.set_cons_succ]
    refine wpAnyH_take (i := 5) (oi := { dst := some 27, op := Op.fieldAddr 37 (Operand.tmp 26) 4, type := 0, pos := "work.go:105", after := #[{ on := 4, ground := Ground.data }], guard := none }) (v := .pointer (some ⟨db, o + 4, none⟩)) rfl (by kernel_rfl) (by kernel_rfl) (by kernel_rfl) (fun _ _ _ h => h)
      (Or.inl ⟨by rfl, by intro w hSw;  clear hSw; go_simp⟩) hHeld2 ?_
    try simp only [Act.put, List.setIfInBounds_toArray, List.set_cons_zero, List.set_cons_succ]
    refine wpAnyH_take (i := 7) (oi := { dst := some 29, op := Op.fieldAddr 180 (Operand.tmp 4) 2, type := 0, pos := "work.go:105", after := #[], guard := none }) (v := .pointer (some ⟨w.heap.size, 2, none⟩)) rfl (by kernel_rfl) (by kernel_rfl) (by kernel_rfl) (fun _ _ _ h => h)
      (Or.inl ⟨by rfl, by intro w hSw;  clear hSw; go_simp⟩) hHeld2 ?_
    try simp only [Act.put, List.setIfInBounds_toArray, List.set_cons_zero, List.set_cons_succ]
    refine wpAnyH_take (i := 8) (oi := { dst := some 30, op := Op.load 3 (Operand.tmp 29), type := 3, pos := "work.go:105", after := #[{ on := 7, ground := Ground.data }], guard := none }) (v := .int .i64 (i : Int)) rfl (by kernel_rfl) (by kernel_rfl) (by kernel_rfl) (fun _ _ _ h => h)
      (Or.inl ⟨by rfl, by intro w hSw; have hq := Has.cellAt hSw.1 (i := 2) rfl; clear hSw; go_simp⟩) hHeld2 ?_
    try simp only [Act.put, List.setIfInBounds_toArray, List.set_cons_zero, List.set_cons_succ]
    refine wpAnyH_take (i := 9) (oi := { dst := some 31, op := Op.load 37 (Operand.tmp 5), type := 37, pos := "work.go:105", after := #[], guard := none }) rfl (by kernel_rfl) (by kernel_rfl) (by kernel_rfl) (fun _ _ _ h => h)
      (yieldsIf_load_mid (by rfl) 37 (.tmp 5) rfl (w.heap.size + 1) (0) rfl ct _ (fun _ h => has_range h.2) Tryz.underlying37 rfl HI5.out) hHeld2 ?_
    try simp only [Act.put, List.setIfInBounds_toArray, List.set_cons_zero, List.set_cons_succ]
    refine wpAnyH_ready (rs := [6, 10]) (by kernel_rfl) (by simp) ?_
    refine AllReadyH.cons (o := { dst := some 28, op := Op.load 35 (Operand.tmp 27), type := 35, pos := "work.go:105", after := #[{ on := 5, ground := Ground.data }], guard := none }) rfl (fun K hK => ?_) (AllReadyH.cons (o := { dst := some 32, op := Op.buildSlice 35 1 #[(0, Operand.tmp 31)], type := 35, pos := "work.go:105", after := #[{ on := 9, ground := Ground.data }], guard := none }) rfl (fun K hK => ?_) AllReadyH.nil)
    · have q3 : World.cell? w4.drew ⟨db, o + 4, none⟩ = some vk := Has.cellAt (X4.out.drew) X44.out
      go_simp
      clear q3
      refine hK.out _ _ (⟨G4.out.drew, T4.out.drew⟩) (fun hHw1 => ?_)
      clear hK K hHeld2
      try simp only [Act.put, List.setIfInBounds_toArray, List.set_cons_zero, List.set_cons_succ]
      refine wpAnyH_ready (rs := [10]) (by kernel_rfl) (by simp) ?_
      refine AllReadyH.cons (o := { dst := some 32, op := Op.buildSlice 35 1 #[(0, Operand.tmp 31)], type := 35, pos := "work.go:105", after := #[{ on := 9, ground := Ground.data }], guard := none }) rfl (fun K hK => ?_) AllReadyH.nil
      obtain ⟨tk0, tx0, a1, n1, m1, a2, n2, m2, a3, n3, m3, hsh⟩ := HSH.out
      rw [hsh]
      go_simp
      obtain ⟨w5, hw5⟩ : ∃ w5, w5 = (w4.alloc (.cells #[.int .u8 (tk0.toNat : Int), .bool tx0, .slice a1 n1 m1, .slice a2 n2 m2, .slice a3 n3 m3] 37)).drew := ⟨_, rfl⟩
      have X5 : Hid (Has w5 db (X.set (o + 3) (.slice va vl vc)) ty) := Lib.hid (by rw [hw5]; exact (X4.out.alloc _).drew)
      have G5 : Hid (Has w5 w.heap.size (spC db o nm i dep tk) 180) := Lib.hid (by rw [hw5]; exact (G4.out.alloc _).drew)
      have T5 : Hid (Has w5 (w.heap.size + 1) ct 37) := Lib.hid (by rw [hw5]; exact (T4.out.alloc _).drew)
      have N5 : Hid (w5.ownsRow B tS 1 (.slice va vl vc) (ns.length + 1) ((ns.take i ++ nm :: ns.drop i).map Value.string)) := Lib.hid (by rw [hw5]; exact owns_drew (owns_alloc N4.out _))
      have K5 : Hid (w5.ownsRow B tT 5 vk ns.length L) := Lib.hid (by rw [hw5]; exact owns_drew (owns_alloc K4.out _))
      have V5 : Hid (Has w5 w4.heap.size ct 37) := Lib.hid (by rw [hw5, hsh]; exact (Has.new w4 [.int .u8 (tk0.toNat : Int), .bool tx0, .slice a1 n1 m1, .slice a2 n2 m2, .slice a3 n3 m3] _).drew)
      have F5 : Hid (Fr (db :: blk vn) w w5) := Lib.hid (by rw [hw5]; exact (F4.out.alloc _).drew)
      have S5 : Hid (w5.heap.size = w4.heap.size + 1) := Lib.hid (by rw [hw5]; simp)
      first | rw [← hw5] | skip
      clear hw5 hsh
      refine hK.out _ _ (⟨G5.out, T5.out⟩) (fun hHw2 => ?_)
      clear hK K hHw1
      try simp only [Act.put, List.setIfInBounds_toArray, List.set_cons_zero, List.set_cons_succ]
      refine wpAnyH_ready (rs := [11]) (by kernel_rfl) (by simp) ?_
      refine AllReadyH.cons (o := { dst := some 33, op := Op.call { callee := Callee.value (Operand.func 141), args := #[Operand.tmp 28, Operand.tmp 30, Operand.tmp 32], argTypes := #[35, 3, 35] }, type := 35, pos := "work.go:105", after := #[{ on := 6, ground := Ground.data }, { on := 8, ground := Ground.data }, { on := 10, ground := Ground.data }], guard := none }) rfl (fun K hK => ?_) AllReadyH.nil
      go_simp
      have hcl := insT_any K5.out (by have := S5.out; have := S4.out; have := HB.out; omega) (by have := HL.out; omega) HI.out (vb := w4.heap.size) V5.out HCT.out (fun e => by have := blk_lt K4.out e; omega) H1L.out H1C.out
      rw [hvk] at hcl
      refine hcl.mono ?_
      rw [← hvk]
      rintro e w6 ⟨VK0, rfl, ho6, hg6, hb6⟩
      obtain ⟨ua, ul, uc, rfl⟩ := slice_owned ho6
      have K6 := Lib.hid ho6
      have N6 : Hid (w6.ownsRow B tS 1 (.slice va vl vc) (ns.length + 1) ((ns.take i ++ nm :: ns.drop i).map Value.string)) := Lib.hid (owns_grown3 N5.out K5.out (by decide) hg6)
      have GR6 : Hid (Fr (blk vk) w5 w6) := Lib.hid (Fr.of_grown hg6 (fun g h => mem_blk.2 h))
      have HVK : Hid (∀ g, (Value.slice ua ul uc).ownBlock = some g → vk.ownBlock = some g ∨ w5.heap.size ≤ g) := Lib.hid hb6
      have S5L : Hid (w.heap.size ≤ w5.heap.size) := Lib.hid (by have := S5.out; have := S4.out; omega)
      have X6 : Hid (Has w6 db (X.set (o + 3) (.slice va vl vc)) ty) := Lib.hid (has_fr X5.out GR6.out (fun h => HKD.out (mem_blk.1 h)))
      have NK : Hid (∀ g, g < w.heap.size + 1 + 1 → w.heap.size ≤ g → g ∉ blk vk) := Lib.hid (fun g h1 h2 h3 => by have := blk_lt HK.out (mem_blk.1 h3); omega)
      have G6 : Hid (Has w6 w.heap.size (spC db o nm i dep tk) 180) := Lib.hid (has_fr G5.out GR6.out (NK.out _ (by omega) (by omega)))
      have T6 : Hid (Has w6 (w.heap.size + 1) ct 37) := Lib.hid (has_fr T5.out GR6.out (NK.out _ (by omega) (by omega)))
      have F6 : Hid (Fr (db :: (blk vn ++ blk vk)) w w6) := Lib.hid ((F5.out.mono (S' := db :: (blk vn ++ blk vk)) (fun g hg _ => by
        rcases List.mem_cons.1 hg with h | h
        · simp [h]
        · simp [h])).trans GR6.out (fun g hg _ => by simp [hg]))
      clear ho6 hg6 hb6 hcl
      go_wp2_with fail
      refine hK.out _ _ (⟨G6.out, T6.out⟩) (fun hHw3 => ?_)
      clear hK K hHw2
      try simp only [Act.put, List.setIfInBounds_toArray, List.set_cons_zero, List.set_cons_succ]
      refine wpAnyH_take (i := 12) (oi := { dst := some 34, op := Op.nilCheck (Operand.tmp 23), type := 0, pos := "work.go:105", after := #[{ on := 1, ground := Ground.data }, { on := 0, ground := Ground.phase }, { on := 1, ground := Ground.phase }, { on := 2, ground := Ground.phase }, { on := 3, ground := Ground.phase }, { on := 4, ground := Ground.phase }, { on := 5, ground := Ground.phase }, { on := 6, ground := Ground.phase }, { on := 7, ground := Ground.phase }, { on := 8, ground := Ground.phase }, { on := 9, ground := Ground.phase }, { on := 10, ground := Ground.phase }, { on := 11, ground := Ground.phase }], guard := none }) (v := .pointer (some ⟨db, o, none⟩)) rfl (by kernel_rfl) (by kernel_rfl) (by kernel_rfl) (fun _ _ _ h => h)
        (Or.inl ⟨by rfl, by intro w hSw;  clear hSw; go_simp⟩) hHw3 ?_
      try simp only [Act.put, List.setIfInBounds_toArray, List.set_cons_zero, List.set_cons_succ]
      refine wpAnyH_take (i := 13) (oi := { dst := some 35, op := Op.fieldAddr 37 (Operand.tmp 34) 4, type := 0, pos := "work.go:105", after := #[{ on := 12, ground := Ground.data }, { on := 0, ground := Ground.phase }, { on := 1, ground := Ground.phase }, { on := 2, ground := Ground.phase }, { on := 3, ground := Ground.phase }, { on := 4, ground := Ground.phase }, { on := 5, ground := Ground.phase }, { on := 6, ground := Ground.phase }, { on := 7, ground := Ground.phase }, { on := 8, ground := Ground.phase }, { on := 9, ground := Ground.phase }, { on := 10, ground := Ground.phase }, { on := 11, ground := Ground.phase }], guard := none }) (v := .pointer (some ⟨db, o + 4, none⟩)) rfl (by kernel_rfl) (by kernel_rfl) (by kernel_rfl) (fun _ _ _ h => h)
        (Or.inl ⟨by rfl, by intro w hSw;  clear hSw; go_simp⟩) hHw3 ?_
      try simp only [Act.put, List.setIfInBounds_toArray, List.set_cons_zero, List.set_cons_succ]
      refine wpAnyH_ready (rs := [14]) (by kernel_rfl) (by simp) ?_
      refine AllReadyH.cons (o := { dst := none, op := Op.store 35 (Operand.tmp 35) (Operand.tmp 33), type := 0, pos := "work.go:105", after := #[{ on := 13, ground := Ground.data }, { on := 11, ground := Ground.data }, { on := 11, ground := Ground.chain }, { on := 0, ground := Ground.phase }, { on := 1, ground := Ground.phase }, { on := 2, ground := Ground.phase }, { on := 3, ground := Ground.phase }, { on := 4, ground := Ground.phase }, { on := 5, ground := Ground.phase }, { on := 6, ground := Ground.phase }, { on := 7, ground := Ground.phase }, { on := 8, ground := Ground.phase }, { on := 9, ground := Ground.phase }, { on := 10, ground := Ground.phase }, { on := 11, ground := Ground.phase }], guard := none }) rfl (fun K hK => ?_) AllReadyH.nil
      have q3 : w6.cell? ⟨db, o + 4, none⟩ = some vk := Has.cellAt X6.out X44.out
      have f3 : w6.frozen? ⟨db, o + 4, none⟩ = false := X6.out.frozen (o + 4)
      go_simp
      clear q3 f3
      obtain ⟨w7, hw7⟩ : ∃ w7, w7 = w6.setCell ⟨db, o + 4, none⟩ (.slice ua ul uc) := ⟨_, rfl⟩
      have X7 : Hid (Has w7 db ((X.set (o + 3) (.slice va vl vc)).set (o + 4) (.slice ua ul uc)) ty) := Lib.hid (by rw [hw7]; exact X6.out.set (o + 4) _)
      have KD7 : Hid ((Value.slice ua ul uc).ownBlock ≠ some db) := Lib.hid (fun e => by
        rcases HVK.out db e with h | h
        · exact HKD.out h
        · have := S5.out; have := S4.out; have := hdl.out; omega)
      have K7 : Hid (w7.ownsRow B tT 5 (.slice ua ul uc) (ns.length + 1) (L.take (i * 5) ++ ct ++ L.drop (i * 5))) := Lib.hid (by rw [hw7]; exact owns_set2 K6.out KD7.out _ _)
      have N7 : Hid (w7.ownsRow B tS 1 (.slice va vl vc) (ns.length + 1) ((ns.take i ++ nm :: ns.drop i).map Value.string)) := Lib.hid (by rw [hw7]; exact owns_set2 N6.out ND4.out _ _)
      have G7 : Hid (Has w7 w.heap.size (spC db o nm i dep tk) 180) := Lib.hid (by rw [hw7]; exact G6.out.setOther (a := ⟨db, o + 4, none⟩) (by have := hdl.out; show w.heap.size ≠ db; omega) _)
      have T7 : Hid (Has w7 (w.heap.size + 1) ct 37) := Lib.hid (by rw [hw7]; exact T6.out.setOther (a := ⟨db, o + 4, none⟩) (by have := hdl.out; show w.heap.size + 1 ≠ db; omega) _)
      have F7 : Hid (Fr (db :: (blk vn ++ blk vk)) w w7) := Lib.hid (by rw [hw7]; exact F6.out.setCell (.inl (by simp)) _ _)
      have S7 : Hid (w.heap.size + 1 + 1 + 1 ≤ w7.heap.size) := Lib.hid (by have h0 := GR6.out.size; have h1 := S4.out; have h2 := S5.out; have h3 : w7.heap.size = w6.heap.size := (by rw [hw7]; simp [World.setCell]); omega)
      first | rw [← hw7] | skip
      clear hw7 X4 N4 K4 G4 T4 F4 X5 N5 K5 G5 T5 F5 X6 N6 K6 G6 T6 F6 V5 GR6
      refine hK.out _ _ (⟨G7.out, T7.out⟩) (fun hHw4 => ?_)
      clear hK K hHw3
      try simp only [Act.put, List.setIfInBounds_toArray, List.set_cons_zero, List.set_cons_succ]
      refine wpAnyH_done (by kernel_rfl) ?_ _
      clear hHw4
      have PP : Hid (∃ e3 e4, Has w7 p (wkC c0 c1 c2 e3 e4 (a : Int) (b : Int)) 140 ∧ (p = db → e3 = .slice va vl vc ∧ e4 = .slice ua ul uc) ∧ (p ≠ db → e3 = c3 ∧ e4 = c4)) := Lib.hid (by
        rcases HPP.out with ⟨rfl, rfl, rfl, rfl⟩ | ⟨h1, h2⟩
        · exact ⟨_, _, X7.out, fun _ => ⟨rfl, rfl⟩, fun h => absurd rfl h⟩
        · refine ⟨c3, c4, has_fr h2 F7.out (fun hm => ?_), fun h => absurd h h1, fun _ => ⟨rfl, rfl⟩⟩
          rcases List.mem_cons.1 hm with h3 | h3
          · exact h1 h3
          · rcases List.mem_append.1 h3 with h4 | h4
            · exact own_type2 HN.out h2 (by decide) (mem_blk.1 h4)
            · exact own_type2 HK.out h2 (by decide) (mem_blk.1 h4))
      obtain ⟨e3, e4, hp7, he1, he2⟩ := PP.out
      have P7 := Lib.hid hp7
      have HE1 := Lib.hid he1
      have HE2 := Lib.hid he2
      have HTC := Lib.hid (show IsT w7 lv ct tt from HTT.out w7 (F7.out.mono (fun g hg _ => List.mem_cons_of_mem _ hg)))
      have T7r : Hid (w7.heap[w.heap.size + 1]? = some (.cells ct.toArray 37 (0, 0))) := Lib.hid (show _ from T7.out)
      have HIA : Hid ((Tryz.prog.info? 37).map (·.size) = some ct.toArray.size) := Lib.hid (by rw [HI5.out]; simp)
      clear hp7 he1 he2 PP
      go_wp2_with (refine wpList_load_row rfl 37 _ rfl (w.heap.size + 1) rfl 37 ct.toArray (0, 0) _ T7r.out Tryz.underlying37 rfl HIA.out ?_)
      refine (count_w lv ct tt w7 p c0 c1 c2 e3 e4 (a : Int) (b : Int) 1 x y HTC.out P7.out HZZ.out (.inl rfl) HBA.out HBB.out).mono ?_
      rintro e w8 ⟨rfl, hp8, hb8⟩
      obtain ⟨A, hA⟩ : ∃ A, A = a + x := ⟨_, rfl⟩
      obtain ⟨C, hC⟩ : ∃ C, C = b + y := ⟨_, rfl⟩
      have P8 : Hid (Has w8 p (wkC c0 c1 c2 e3 e4 (A : Int) (C : Int)) 140) := Lib.hid (by rw [hA, hC, Int.natCast_add, Int.natCast_add]; rw [Int.one_mul, Int.one_mul] at hp8; exact hp8)
      have B8 := Lib.hid hb8
      have HA := Lib.hid hA
      have HC := Lib.hid hC
      have PLT : Hid (p < w7.heap.size) := Lib.hid P7.out.lt
      have PW : Hid (p < w.heap.size) := Lib.hid (by
        rcases HPP.out with ⟨rfl, _, _, _⟩ | ⟨h1, h2⟩
        · exact hdl.out
        · exact h2.lt)
      have F8 : Hid (Fr (p :: db :: (blk vn ++ blk vk)) w w8) := Lib.hid ((F7.out.mono (S' := p :: db :: (blk vn ++ blk vk)) (fun g hg _ => List.mem_cons_of_mem _ hg)).trans (Fr.of_but (S := [p]) hb8 (.inl (by simp))) (fun g hg _ => by simp only [List.mem_cons, List.not_mem_nil, or_false] at hg; simp [hg]))
      have G8 : Hid (Has w8 w.heap.size (spC db o nm i dep tk) 180) := Lib.hid (G7.out.but hb8 G7.out.lt (by have := PW.out; omega))
      have T8 : Hid (Has w8 (w.heap.size + 1) ct 37) := Lib.hid (T7.out.but hb8 T7.out.lt (by have := PW.out; omega))
      have RES : Hid (∀ (e : Ending) (w' : World), e = .returned (.int .i64 (if 4096 < A ∨ 65536 < C ∨ 16 < dep + heightT tt then 2 else 0)) → Fr (p :: db :: (blk vn ++ blk vk)) w w' → Below w8.heap.size w8 w' → LayP w B p db o X L ct ty vn vk c0 c1 c2 c3 c4 ns nm i a b x y dep tt e w') := Lib.hid (fun e w' he hf hl => by
        rw [HA.out, HC.out] at he
        have hP8 : Has w' p (wkC c0 c1 c2 e3 e4 (A : Int) (C : Int)) 140 := has_fr (S := []) P8.out (Fr.of_below hl) (by simp)
        have hl8 : Fr [p] w7 w' := (Fr.of_but (S := [p]) B8.out (.inl (by simp))).trans (Fr.of_below (S := []) hl) (fun g hg => by simp at hg)
        rw [HA.out, HC.out] at hP8
        have hpn : p ∉ blk (Value.slice va vl vc) := fun h => own_type2 N7.out P7.out (by decide) (mem_blk.1 h)
        have hpk : p ∉ blk (Value.slice ua ul uc) := fun h => own_type2 K7.out P7.out (by decide) (mem_blk.1 h)
        refine ⟨.slice va vl vc, .slice ua ul uc, he, fun h => ?_, fun h => ⟨has_fr X7.out hl8 (by simp only [List.mem_cons, List.not_mem_nil, or_false]; exact fun e => h e.symm), ?_⟩, owns_fr N7.out hl8 (fun g hg hm => ?_), owns_fr K7.out hl8 (fun g hg hm => ?_), hf, fun g hg => ?_, fun g hg => ?_⟩
        · obtain ⟨rfl, rfl⟩ := HE1.out h
          exact hP8
        · obtain ⟨rfl, rfl⟩ := HE2.out h
          exact hP8
        · simp only [List.mem_cons, List.not_mem_nil, or_false] at hm
          subst hm
          exact hpn hg
        · simp only [List.mem_cons, List.not_mem_nil, or_false] at hm
          subst hm
          exact hpk hg
        · rcases HVN.out g hg with h | h
          · exact .inl h
          · exact .inr (by have := S2L.out; omega)
        · rcases HVK.out g hg with h | h
          · exact .inl h
          · exact .inr (by have := S5L.out; omega))
      clear hp8 hb8 P7 T7r HTC hA hC B8 N7 K7 X7 G7 T7 F7 HVN HVK
      by_cases q1 : 4096 < A
      · have z1 : (4096 : Int) < (A : Int) := by omega
        go_wp2_with fail
        refine wp_region_held_drew (S := fun W => Has W w.heap.size (spC db o nm i dep tk) 180 ∧ Has W (w.heap.size + 1) ct 37 ∧ Has W p (wkC c0 c1 c2 e3 e4 (A : Int) (C : Int)) 140) (by kernel_rfl) ⟨G8.out.drew, T8.out.drew, P8.out.drew⟩ (fun hHeld4 => ?_)
        refine wpAnyH_take (i := 0) (oi := { dst := some 39, op := Op.move (Operand.tmp 0), type := 136, pos := "work.go:107", after := #[], guard := none }) (v := .pointer (some ⟨p, 0, none⟩)) rfl (by kernel_rfl) (by kernel_rfl) (by kernel_rfl) (fun _ _ _ h => h)
          (Or.inl ⟨by rfl, by intro w hSw;  clear hSw; go_simp⟩) hHeld4 ?_
        try simp only [Act.put, List.setIfInBounds_toArray, List.set_cons_zero, List.set_cons_succ]
        refine wpAnyH_take (i := 1) (oi := { dst := some 40, op := Op.nilCheck (Operand.tmp 39), type := 0, pos := "work.go:107", after := #[{ on := 0, ground := Ground.data }], guard := none }) (v := .pointer (some ⟨p, 0, none⟩)) rfl (by kernel_rfl) (by kernel_rfl) (by kernel_rfl) (fun _ _ _ h => h)
          (Or.inl ⟨by rfl, by intro w hSw;  clear hSw; go_simp⟩) hHeld4 ?_
        try simp only [Act.put, List.setIfInBounds_toArray, List.set_cons_zero, List.set_cons_succ]
        refine wpAnyH_take (i := 2) (oi := { dst := some 41, op := Op.fieldAddr 140 (Operand.tmp 40) 1, type := 0, pos := "work.go:107", after := #[{ on := 1, ground := Ground.data }], guard := none }) (v := .pointer (some ⟨p, 5, none⟩)) rfl (by kernel_rfl) (by kernel_rfl) (by kernel_rfl) (fun _ _ _ h => h)
          (Or.inl ⟨by rfl, by intro w hSw;  clear hSw; go_simp⟩) hHeld4 ?_
        try simp only [Act.put, List.setIfInBounds_toArray, List.set_cons_zero, List.set_cons_succ]
        refine wpAnyH_take (i := 3) (oi := { dst := some 42, op := Op.load 3 (Operand.tmp 41), type := 3, pos := "work.go:107", after := #[{ on := 2, ground := Ground.data }], guard := none }) (v := .int .i64 (A : Int)) rfl (by kernel_rfl) (by kernel_rfl) (by kernel_rfl) (fun _ _ _ h => h)
          (Or.inl ⟨by rfl, by intro w hSw; have hq := Has.cellAt hSw.2.2 (i := 5) rfl; clear hSw; go_simp⟩) hHeld4 ?_
        try simp only [Act.put, List.setIfInBounds_toArray, List.set_cons_zero, List.set_cons_succ]
        refine wpAnyH_take (i := 4) (oi := { dst := some 43, op := Op.binOp BinOp.gtr 3 (Operand.tmp 42) (Operand.const (Value.int IntKind.i64 4096)) 3, type := 4, pos := "work.go:107", after := #[{ on := 3, ground := Ground.data }], guard := none }) (v := .bool true) rfl (by kernel_rfl) (by kernel_rfl) (by kernel_rfl) (fun _ _ _ h => h)
          (Or.inl ⟨by rfl, by intro w hSw;  clear hSw; go_simp⟩) hHeld4 ?_
        try simp only [Act.put, List.setIfInBounds_toArray, List.set_cons_zero, List.set_cons_succ]
        refine wpAnyH_take (i := 5) (oi := { dst := some 44, op := Op.move (Operand.tmp 43), type := 4, pos := "work.go:107", after := #[{ on := 4, ground := Ground.data }], guard := none }) (v := .bool true) rfl (by kernel_rfl) (by kernel_rfl) (by kernel_rfl) (fun _ _ _ h => h)
          (Or.inl ⟨by rfl, by intro w hSw;  clear hSw; go_simp⟩) hHeld4 ?_
        try simp only [Act.put, List.setIfInBounds_toArray, List.set_cons_zero, List.set_cons_succ]
        refine wpAnyH_take (i := 6) (oi := { dst := some 45, op := Op.move (Operand.tmp 0), type := 136, pos := "work.go:107", after := #[{ on := 5, ground := Ground.guard }], guard := some (5, false) }) (v := undef) rfl (by kernel_rfl) (by kernel_rfl) (by kernel_rfl) (fun _ _ _ h => h)
          (Or.inr ⟨by rfl, by rfl⟩) hHeld4 ?_
        try simp only [Act.put, List.setIfInBounds_toArray, List.set_cons_zero, List.set_cons_succ]
        refine wpAnyH_take (i := 7) (oi := { dst := some 46, op := Op.nilCheck (Operand.tmp 45), type := 0, pos := "work.go:107", after := #[{ on := 6, ground := Ground.data }, { on := 5, ground := Ground.guard }], guard := some (5, false) }) (v := undef) rfl (by kernel_rfl) (by kernel_rfl) (by kernel_rfl) (fun _ _ _ h => h)
          (Or.inr ⟨by rfl, by rfl⟩) hHeld4 ?_
        try simp only [Act.put, List.setIfInBounds_toArray, List.set_cons_zero, List.set_cons_succ]
        refine wpAnyH_take (i := 8) (oi := { dst := some 47, op := Op.fieldAddr 140 (Operand.tmp 46) 2, type := 0, pos := "work.go:107", after := #[{ on := 7, ground := Ground.data }, { on := 5, ground := Ground.guard }], guard := some (5, false) }) (v := undef) rfl (by kernel_rfl) (by kernel_rfl) (by kernel_rfl) (fun _ _ _ h => h)
          (Or.inr ⟨by rfl, by rfl⟩) hHeld4 ?_
        try simp only [Act.put, List.setIfInBounds_toArray, List.set_cons_zero, List.set_cons_succ]
        refine wpAnyH_take (i := 9) (oi := { dst := some 48, op := Op.load 3 (Operand.tmp 47), type := 3, pos := "work.go:107", after := #[{ on := 8, ground := Ground.data }, { on := 5, ground := Ground.guard }], guard := some (5, false) }) (v := undef) rfl (by kernel_rfl) (by kernel_rfl) (by kernel_rfl) (fun _ _ _ h => h)
          (Or.inr ⟨by rfl, by rfl⟩) hHeld4 ?_
        try simp only [Act.put, List.setIfInBounds_toArray, List.set_cons_zero, List.set_cons_succ]
        refine wpAnyH_take (i := 10) (oi := { dst := some 49, op := Op.binOp BinOp.gtr 3 (Operand.tmp 48) (Operand.const (Value.int IntKind.i64 65536)) 3, type := 4, pos := "work.go:107", after := #[{ on := 9, ground := Ground.data }, { on := 5, ground := Ground.guard }], guard := some (5, false) }) (v := undef) rfl (by kernel_rfl) (by kernel_rfl) (by kernel_rfl) (fun _ _ _ h => h)
          (Or.inr ⟨by rfl, by rfl⟩) hHeld4 ?_
        try simp only [Act.put, List.setIfInBounds_toArray, List.set_cons_zero, List.set_cons_succ]
        refine wpAnyH_take (i := 11) (oi := { dst := some 50, op := Op.pick (Operand.tmp 44) (Operand.const (Value.bool true)) (Operand.tmp 49), type := 4, pos := "work.go:107", after := #[{ on := 5, ground := Ground.data }, { on := 10, ground := Ground.data }], guard := none }) (v := .bool true) rfl (by kernel_rfl) (by kernel_rfl) (by kernel_rfl) (fun _ _ _ h => h)
          (Or.inl ⟨by rfl, by intro w hSw;  clear hSw; go_simp⟩) hHeld4 ?_
        try simp only [Act.put, List.setIfInBounds_toArray, List.set_cons_zero, List.set_cons_succ]
        refine wpAnyH_take (i := 12) (oi := { dst := some 51, op := Op.move (Operand.tmp 50), type := 4, pos := "work.go:107", after := #[{ on := 11, ground := Ground.data }, { on := 5, ground := Ground.chain }], guard := none }) (v := .bool true) rfl (by kernel_rfl) (by kernel_rfl) (by kernel_rfl) (fun _ _ _ h => h)
          (Or.inl ⟨by rfl, by intro w hSw;  clear hSw; go_simp⟩) hHeld4 ?_
        try simp only [Act.put, List.setIfInBounds_toArray, List.set_cons_zero, List.set_cons_succ]
        refine wpAnyH_take (i := 13) (oi := { dst := some 52, op := Op.fieldAddr 180 (Operand.tmp 4) 3, type := 0, pos := "work.go:107", after := #[{ on := 12, ground := Ground.guard }], guard := some (12, false) }) (v := undef) rfl (by kernel_rfl) (by kernel_rfl) (by kernel_rfl) (fun _ _ _ h => h)
          (Or.inr ⟨by rfl, by rfl⟩) hHeld4 ?_
        try simp only [Act.put, List.setIfInBounds_toArray, List.set_cons_zero, List.set_cons_succ]
        refine wpAnyH_take (i := 14) (oi := { dst := some 53, op := Op.load 3 (Operand.tmp 52), type := 3, pos := "work.go:107", after := #[{ on := 13, ground := Ground.data }, { on := 12, ground := Ground.guard }], guard := some (12, false) }) (v := undef) rfl (by kernel_rfl) (by kernel_rfl) (by kernel_rfl) (fun _ _ _ h => h)
          (Or.inr ⟨by rfl, by rfl⟩) hHeld4 ?_
        try simp only [Act.put, List.setIfInBounds_toArray, List.set_cons_zero, List.set_cons_succ]
        refine wpAnyH_take (i := 15) (oi := { dst := some 54, op := Op.load 37 (Operand.tmp 5), type := 37, pos := "work.go:107", after := #[{ on := 12, ground := Ground.guard }], guard := some (12, false) }) (v := undef) rfl (by kernel_rfl) (by kernel_rfl) (by kernel_rfl) (fun _ _ _ h => h)
          (Or.inr ⟨by rfl, by rfl⟩) hHeld4 ?_
        try simp only [Act.put, List.setIfInBounds_toArray, List.set_cons_zero, List.set_cons_succ]
        refine wpAnyH_take (i := 16) (oi := { dst := some 55, op := Op.call { callee := Callee.value (Operand.func 143), args := #[Operand.tmp 54], argTypes := #[37] }, type := 3, pos := "work.go:107", after := #[{ on := 15, ground := Ground.data }, { on := 12, ground := Ground.chain }, { on := 12, ground := Ground.guard }], guard := some (12, false) }) (v := undef) rfl (by kernel_rfl) (by kernel_rfl) (by kernel_rfl) (fun _ _ _ h => h)
          (Or.inr ⟨by rfl, by rfl⟩) hHeld4 ?_
        try simp only [Act.put, List.setIfInBounds_toArray, List.set_cons_zero, List.set_cons_succ]
        refine wpAnyH_take (i := 17) (oi := { dst := some 56, op := Op.binOp BinOp.add 3 (Operand.tmp 53) (Operand.tmp 55) 3, type := 3, pos := "work.go:107", after := #[{ on := 14, ground := Ground.data }, { on := 16, ground := Ground.data }, { on := 12, ground := Ground.guard }], guard := some (12, false) }) (v := undef) rfl (by kernel_rfl) (by kernel_rfl) (by kernel_rfl) (fun _ _ _ h => h)
          (Or.inr ⟨by rfl, by rfl⟩) hHeld4 ?_
        try simp only [Act.put, List.setIfInBounds_toArray, List.set_cons_zero, List.set_cons_succ]
        refine wpAnyH_take (i := 18) (oi := { dst := some 57, op := Op.binOp BinOp.gtr 3 (Operand.tmp 56) (Operand.const (Value.int IntKind.i64 16)) 3, type := 4, pos := "work.go:107", after := #[{ on := 17, ground := Ground.data }, { on := 12, ground := Ground.guard }], guard := some (12, false) }) (v := undef) rfl (by kernel_rfl) (by kernel_rfl) (by kernel_rfl) (fun _ _ _ h => h)
          (Or.inr ⟨by rfl, by rfl⟩) hHeld4 ?_
        try simp only [Act.put, List.setIfInBounds_toArray, List.set_cons_zero, List.set_cons_succ]
        refine wpAnyH_take (i := 19) (oi := { dst := some 58, op := Op.pick (Operand.tmp 51) (Operand.const (Value.bool true)) (Operand.tmp 57), type := 4, pos := "work.go:107", after := #[{ on := 12, ground := Ground.data }, { on := 18, ground := Ground.data }], guard := none }) (v := .bool true) rfl (by kernel_rfl) (by kernel_rfl) (by kernel_rfl) (fun _ _ _ h => h)
          (Or.inl ⟨by rfl, by intro w hSw;  clear hSw; go_simp⟩) hHeld4 ?_
        try simp only [Act.put, List.setIfInBounds_toArray, List.set_cons_zero, List.set_cons_succ]
        refine wpAnyH_done (by kernel_rfl) ?_ _
        clear hHeld4
        go_wp2_with fail
        go_ret
        exact RES.out _ _ (by first | (rw [if_pos (Or.inl (by omega))]; rfl) | (rw [if_neg (by omega)]; rfl)) (F8.out.drew) ((Below.refl w8.heap.size w8).drew)
      · have z1 : ¬ (4096 : Int) < (A : Int) := by omega
        by_cases q2 : 65536 < C
        · have z2 : (65536 : Int) < (C : Int) := by omega
          go_wp2_with fail
          refine wp_region_held_drew (S := fun W => Has W w.heap.size (spC db o nm i dep tk) 180 ∧ Has W (w.heap.size + 1) ct 37 ∧ Has W p (wkC c0 c1 c2 e3 e4 (A : Int) (C : Int)) 140) (by kernel_rfl) ⟨G8.out.drew, T8.out.drew, P8.out.drew⟩ (fun hHeld4 => ?_)
          refine wpAnyH_take (i := 0) (oi := { dst := some 39, op := Op.move (Operand.tmp 0), type := 136, pos := "work.go:107", after := #[], guard := none }) (v := .pointer (some ⟨p, 0, none⟩)) rfl (by kernel_rfl) (by kernel_rfl) (by kernel_rfl) (fun _ _ _ h => h)
            (Or.inl ⟨by rfl, by intro w hSw;  clear hSw; go_simp⟩) hHeld4 ?_
          try simp only [Act.put, List.setIfInBounds_toArray, List.set_cons_zero, List.set_cons_succ]
          refine wpAnyH_take (i := 1) (oi := { dst := some 40, op := Op.nilCheck (Operand.tmp 39), type := 0, pos := "work.go:107", after := #[{ on := 0, ground := Ground.data }], guard := none }) (v := .pointer (some ⟨p, 0, none⟩)) rfl (by kernel_rfl) (by kernel_rfl) (by kernel_rfl) (fun _ _ _ h => h)
            (Or.inl ⟨by rfl, by intro w hSw;  clear hSw; go_simp⟩) hHeld4 ?_
          try simp only [Act.put, List.setIfInBounds_toArray, List.set_cons_zero, List.set_cons_succ]
          refine wpAnyH_take (i := 2) (oi := { dst := some 41, op := Op.fieldAddr 140 (Operand.tmp 40) 1, type := 0, pos := "work.go:107", after := #[{ on := 1, ground := Ground.data }], guard := none }) (v := .pointer (some ⟨p, 5, none⟩)) rfl (by kernel_rfl) (by kernel_rfl) (by kernel_rfl) (fun _ _ _ h => h)
            (Or.inl ⟨by rfl, by intro w hSw;  clear hSw; go_simp⟩) hHeld4 ?_
          try simp only [Act.put, List.setIfInBounds_toArray, List.set_cons_zero, List.set_cons_succ]
          refine wpAnyH_take (i := 3) (oi := { dst := some 42, op := Op.load 3 (Operand.tmp 41), type := 3, pos := "work.go:107", after := #[{ on := 2, ground := Ground.data }], guard := none }) (v := .int .i64 (A : Int)) rfl (by kernel_rfl) (by kernel_rfl) (by kernel_rfl) (fun _ _ _ h => h)
            (Or.inl ⟨by rfl, by intro w hSw; have hq := Has.cellAt hSw.2.2 (i := 5) rfl; clear hSw; go_simp⟩) hHeld4 ?_
          try simp only [Act.put, List.setIfInBounds_toArray, List.set_cons_zero, List.set_cons_succ]
          refine wpAnyH_take (i := 4) (oi := { dst := some 43, op := Op.binOp BinOp.gtr 3 (Operand.tmp 42) (Operand.const (Value.int IntKind.i64 4096)) 3, type := 4, pos := "work.go:107", after := #[{ on := 3, ground := Ground.data }], guard := none }) (v := .bool false) rfl (by kernel_rfl) (by kernel_rfl) (by kernel_rfl) (fun _ _ _ h => h)
            (Or.inl ⟨by rfl, by intro w hSw;  clear hSw; go_simp⟩) hHeld4 ?_
          try simp only [Act.put, List.setIfInBounds_toArray, List.set_cons_zero, List.set_cons_succ]
          refine wpAnyH_take (i := 5) (oi := { dst := some 44, op := Op.move (Operand.tmp 43), type := 4, pos := "work.go:107", after := #[{ on := 4, ground := Ground.data }], guard := none }) (v := .bool false) rfl (by kernel_rfl) (by kernel_rfl) (by kernel_rfl) (fun _ _ _ h => h)
            (Or.inl ⟨by rfl, by intro w hSw;  clear hSw; go_simp⟩) hHeld4 ?_
          try simp only [Act.put, List.setIfInBounds_toArray, List.set_cons_zero, List.set_cons_succ]
          refine wpAnyH_take (i := 6) (oi := { dst := some 45, op := Op.move (Operand.tmp 0), type := 136, pos := "work.go:107", after := #[{ on := 5, ground := Ground.guard }], guard := some (5, false) }) (v := .pointer (some ⟨p, 0, none⟩)) rfl (by kernel_rfl) (by kernel_rfl) (by kernel_rfl) (fun _ _ _ h => h)
            (Or.inl ⟨by rfl, by intro w hSw;  clear hSw; go_simp⟩) hHeld4 ?_
          try simp only [Act.put, List.setIfInBounds_toArray, List.set_cons_zero, List.set_cons_succ]
          refine wpAnyH_take (i := 7) (oi := { dst := some 46, op := Op.nilCheck (Operand.tmp 45), type := 0, pos := "work.go:107", after := #[{ on := 6, ground := Ground.data }, { on := 5, ground := Ground.guard }], guard := some (5, false) }) (v := .pointer (some ⟨p, 0, none⟩)) rfl (by kernel_rfl) (by kernel_rfl) (by kernel_rfl) (fun _ _ _ h => h)
            (Or.inl ⟨by rfl, by intro w hSw;  clear hSw; go_simp⟩) hHeld4 ?_
          try simp only [Act.put, List.setIfInBounds_toArray, List.set_cons_zero, List.set_cons_succ]
          refine wpAnyH_take (i := 8) (oi := { dst := some 47, op := Op.fieldAddr 140 (Operand.tmp 46) 2, type := 0, pos := "work.go:107", after := #[{ on := 7, ground := Ground.data }, { on := 5, ground := Ground.guard }], guard := some (5, false) }) (v := .pointer (some ⟨p, 6, none⟩)) rfl (by kernel_rfl) (by kernel_rfl) (by kernel_rfl) (fun _ _ _ h => h)
            (Or.inl ⟨by rfl, by intro w hSw;  clear hSw; go_simp⟩) hHeld4 ?_
          try simp only [Act.put, List.setIfInBounds_toArray, List.set_cons_zero, List.set_cons_succ]
          refine wpAnyH_take (i := 9) (oi := { dst := some 48, op := Op.load 3 (Operand.tmp 47), type := 3, pos := "work.go:107", after := #[{ on := 8, ground := Ground.data }, { on := 5, ground := Ground.guard }], guard := some (5, false) }) (v := .int .i64 (C : Int)) rfl (by kernel_rfl) (by kernel_rfl) (by kernel_rfl) (fun _ _ _ h => h)
            (Or.inl ⟨by rfl, by intro w hSw; have hq := Has.cellAt hSw.2.2 (i := 6) rfl; clear hSw; go_simp⟩) hHeld4 ?_
          try simp only [Act.put, List.setIfInBounds_toArray, List.set_cons_zero, List.set_cons_succ]
          refine wpAnyH_take (i := 10) (oi := { dst := some 49, op := Op.binOp BinOp.gtr 3 (Operand.tmp 48) (Operand.const (Value.int IntKind.i64 65536)) 3, type := 4, pos := "work.go:107", after := #[{ on := 9, ground := Ground.data }, { on := 5, ground := Ground.guard }], guard := some (5, false) }) (v := .bool true) rfl (by kernel_rfl) (by kernel_rfl) (by kernel_rfl) (fun _ _ _ h => h)
            (Or.inl ⟨by rfl, by intro w hSw;  clear hSw; go_simp⟩) hHeld4 ?_
          try simp only [Act.put, List.setIfInBounds_toArray, List.set_cons_zero, List.set_cons_succ]
          refine wpAnyH_take (i := 11) (oi := { dst := some 50, op := Op.pick (Operand.tmp 44) (Operand.const (Value.bool true)) (Operand.tmp 49), type := 4, pos := "work.go:107", after := #[{ on := 5, ground := Ground.data }, { on := 10, ground := Ground.data }], guard := none }) (v := .bool true) rfl (by kernel_rfl) (by kernel_rfl) (by kernel_rfl) (fun _ _ _ h => h)
            (Or.inl ⟨by rfl, by intro w hSw;  clear hSw; go_simp⟩) hHeld4 ?_
          try simp only [Act.put, List.setIfInBounds_toArray, List.set_cons_zero, List.set_cons_succ]
          refine wpAnyH_take (i := 12) (oi := { dst := some 51, op := Op.move (Operand.tmp 50), type := 4, pos := "work.go:107", after := #[{ on := 11, ground := Ground.data }, { on := 5, ground := Ground.chain }], guard := none }) (v := .bool true) rfl (by kernel_rfl) (by kernel_rfl) (by kernel_rfl) (fun _ _ _ h => h)
            (Or.inl ⟨by rfl, by intro w hSw;  clear hSw; go_simp⟩) hHeld4 ?_
          try simp only [Act.put, List.setIfInBounds_toArray, List.set_cons_zero, List.set_cons_succ]
          refine wpAnyH_take (i := 13) (oi := { dst := some 52, op := Op.fieldAddr 180 (Operand.tmp 4) 3, type := 0, pos := "work.go:107", after := #[{ on := 12, ground := Ground.guard }], guard := some (12, false) }) (v := undef) rfl (by kernel_rfl) (by kernel_rfl) (by kernel_rfl) (fun _ _ _ h => h)
            (Or.inr ⟨by rfl, by rfl⟩) hHeld4 ?_
          try simp only [Act.put, List.setIfInBounds_toArray, List.set_cons_zero, List.set_cons_succ]
          refine wpAnyH_take (i := 14) (oi := { dst := some 53, op := Op.load 3 (Operand.tmp 52), type := 3, pos := "work.go:107", after := #[{ on := 13, ground := Ground.data }, { on := 12, ground := Ground.guard }], guard := some (12, false) }) (v := undef) rfl (by kernel_rfl) (by kernel_rfl) (by kernel_rfl) (fun _ _ _ h => h)
            (Or.inr ⟨by rfl, by rfl⟩) hHeld4 ?_
          try simp only [Act.put, List.setIfInBounds_toArray, List.set_cons_zero, List.set_cons_succ]
          refine wpAnyH_take (i := 15) (oi := { dst := some 54, op := Op.load 37 (Operand.tmp 5), type := 37, pos := "work.go:107", after := #[{ on := 12, ground := Ground.guard }], guard := some (12, false) }) (v := undef) rfl (by kernel_rfl) (by kernel_rfl) (by kernel_rfl) (fun _ _ _ h => h)
            (Or.inr ⟨by rfl, by rfl⟩) hHeld4 ?_
          try simp only [Act.put, List.setIfInBounds_toArray, List.set_cons_zero, List.set_cons_succ]
          refine wpAnyH_take (i := 16) (oi := { dst := some 55, op := Op.call { callee := Callee.value (Operand.func 143), args := #[Operand.tmp 54], argTypes := #[37] }, type := 3, pos := "work.go:107", after := #[{ on := 15, ground := Ground.data }, { on := 12, ground := Ground.chain }, { on := 12, ground := Ground.guard }], guard := some (12, false) }) (v := undef) rfl (by kernel_rfl) (by kernel_rfl) (by kernel_rfl) (fun _ _ _ h => h)
            (Or.inr ⟨by rfl, by rfl⟩) hHeld4 ?_
          try simp only [Act.put, List.setIfInBounds_toArray, List.set_cons_zero, List.set_cons_succ]
          refine wpAnyH_take (i := 17) (oi := { dst := some 56, op := Op.binOp BinOp.add 3 (Operand.tmp 53) (Operand.tmp 55) 3, type := 3, pos := "work.go:107", after := #[{ on := 14, ground := Ground.data }, { on := 16, ground := Ground.data }, { on := 12, ground := Ground.guard }], guard := some (12, false) }) (v := undef) rfl (by kernel_rfl) (by kernel_rfl) (by kernel_rfl) (fun _ _ _ h => h)
            (Or.inr ⟨by rfl, by rfl⟩) hHeld4 ?_
          try simp only [Act.put, List.setIfInBounds_toArray, List.set_cons_zero, List.set_cons_succ]
          refine wpAnyH_take (i := 18) (oi := { dst := some 57, op := Op.binOp BinOp.gtr 3 (Operand.tmp 56) (Operand.const (Value.int IntKind.i64 16)) 3, type := 4, pos := "work.go:107", after := #[{ on := 17, ground := Ground.data }, { on := 12, ground := Ground.guard }], guard := some (12, false) }) (v := undef) rfl (by kernel_rfl) (by kernel_rfl) (by kernel_rfl) (fun _ _ _ h => h)
            (Or.inr ⟨by rfl, by rfl⟩) hHeld4 ?_
          try simp only [Act.put, List.setIfInBounds_toArray, List.set_cons_zero, List.set_cons_succ]
          refine wpAnyH_take (i := 19) (oi := { dst := some 58, op := Op.pick (Operand.tmp 51) (Operand.const (Value.bool true)) (Operand.tmp 57), type := 4, pos := "work.go:107", after := #[{ on := 12, ground := Ground.data }, { on := 18, ground := Ground.data }], guard := none }) (v := .bool true) rfl (by kernel_rfl) (by kernel_rfl) (by kernel_rfl) (fun _ _ _ h => h)
            (Or.inl ⟨by rfl, by intro w hSw;  clear hSw; go_simp⟩) hHeld4 ?_
          try simp only [Act.put, List.setIfInBounds_toArray, List.set_cons_zero, List.set_cons_succ]
          refine wpAnyH_done (by kernel_rfl) ?_ _
          clear hHeld4
          go_wp2_with fail
          go_ret
          exact RES.out _ _ (by first | (rw [if_pos (Or.inr (Or.inl (by omega)))]; rfl) | (rw [if_neg (by omega)]; rfl)) (F8.out.drew) ((Below.refl w8.heap.size w8).drew)
        · have z2 : ¬ (65536 : Int) < (C : Int) := by omega
          have z4 : (dep : Int) + (heightT tt : Int) ≤ 9223372036854775807 ∧ 0 ≤ (heightT tt : Int) ∧ 0 ≤ (dep : Int) := ⟨by have h1 := heightT_lt tt; have h2 := HNN.out; have h3 := HDP.out; omega, by omega, by omega⟩
          have z5 : IntKind.i64.wrap ((dep : Int) + (heightT tt : Int)) = (dep : Int) + (heightT tt : Int) := by rw [IntKind.wrap_i64]; omega
          by_cases q3 : 16 < dep + heightT tt
          · have z3 : (16 : Int) < (dep : Int) + (heightT tt : Int) := by omega
            go_wp2_with fail
            refine wp_region_held_drew (S := fun W => Has W w.heap.size (spC db o nm i dep tk) 180 ∧ Has W (w.heap.size + 1) ct 37 ∧ Has W p (wkC c0 c1 c2 e3 e4 (A : Int) (C : Int)) 140) (by kernel_rfl) ⟨G8.out.drew, T8.out.drew, P8.out.drew⟩ (fun hHeld4 => ?_)
            refine wpAnyH_take (i := 0) (oi := { dst := some 39, op := Op.move (Operand.tmp 0), type := 136, pos := "work.go:107", after := #[], guard := none }) (v := .pointer (some ⟨p, 0, none⟩)) rfl (by kernel_rfl) (by kernel_rfl) (by kernel_rfl) (fun _ _ _ h => h)
              (Or.inl ⟨by rfl, by intro w hSw;  clear hSw; go_simp⟩) hHeld4 ?_
            try simp only [Act.put, List.setIfInBounds_toArray, List.set_cons_zero, List.set_cons_succ]
            refine wpAnyH_take (i := 1) (oi := { dst := some 40, op := Op.nilCheck (Operand.tmp 39), type := 0, pos := "work.go:107", after := #[{ on := 0, ground := Ground.data }], guard := none }) (v := .pointer (some ⟨p, 0, none⟩)) rfl (by kernel_rfl) (by kernel_rfl) (by kernel_rfl) (fun _ _ _ h => h)
              (Or.inl ⟨by rfl, by intro w hSw;  clear hSw; go_simp⟩) hHeld4 ?_
            try simp only [Act.put, List.setIfInBounds_toArray, List.set_cons_zero, List.set_cons_succ]
            refine wpAnyH_take (i := 2) (oi := { dst := some 41, op := Op.fieldAddr 140 (Operand.tmp 40) 1, type := 0, pos := "work.go:107", after := #[{ on := 1, ground := Ground.data }], guard := none }) (v := .pointer (some ⟨p, 5, none⟩)) rfl (by kernel_rfl) (by kernel_rfl) (by kernel_rfl) (fun _ _ _ h => h)
              (Or.inl ⟨by rfl, by intro w hSw;  clear hSw; go_simp⟩) hHeld4 ?_
            try simp only [Act.put, List.setIfInBounds_toArray, List.set_cons_zero, List.set_cons_succ]
            refine wpAnyH_take (i := 3) (oi := { dst := some 42, op := Op.load 3 (Operand.tmp 41), type := 3, pos := "work.go:107", after := #[{ on := 2, ground := Ground.data }], guard := none }) (v := .int .i64 (A : Int)) rfl (by kernel_rfl) (by kernel_rfl) (by kernel_rfl) (fun _ _ _ h => h)
              (Or.inl ⟨by rfl, by intro w hSw; have hq := Has.cellAt hSw.2.2 (i := 5) rfl; clear hSw; go_simp⟩) hHeld4 ?_
            try simp only [Act.put, List.setIfInBounds_toArray, List.set_cons_zero, List.set_cons_succ]
            refine wpAnyH_take (i := 4) (oi := { dst := some 43, op := Op.binOp BinOp.gtr 3 (Operand.tmp 42) (Operand.const (Value.int IntKind.i64 4096)) 3, type := 4, pos := "work.go:107", after := #[{ on := 3, ground := Ground.data }], guard := none }) (v := .bool false) rfl (by kernel_rfl) (by kernel_rfl) (by kernel_rfl) (fun _ _ _ h => h)
              (Or.inl ⟨by rfl, by intro w hSw;  clear hSw; go_simp⟩) hHeld4 ?_
            try simp only [Act.put, List.setIfInBounds_toArray, List.set_cons_zero, List.set_cons_succ]
            refine wpAnyH_take (i := 5) (oi := { dst := some 44, op := Op.move (Operand.tmp 43), type := 4, pos := "work.go:107", after := #[{ on := 4, ground := Ground.data }], guard := none }) (v := .bool false) rfl (by kernel_rfl) (by kernel_rfl) (by kernel_rfl) (fun _ _ _ h => h)
              (Or.inl ⟨by rfl, by intro w hSw;  clear hSw; go_simp⟩) hHeld4 ?_
            try simp only [Act.put, List.setIfInBounds_toArray, List.set_cons_zero, List.set_cons_succ]
            refine wpAnyH_take (i := 6) (oi := { dst := some 45, op := Op.move (Operand.tmp 0), type := 136, pos := "work.go:107", after := #[{ on := 5, ground := Ground.guard }], guard := some (5, false) }) (v := .pointer (some ⟨p, 0, none⟩)) rfl (by kernel_rfl) (by kernel_rfl) (by kernel_rfl) (fun _ _ _ h => h)
              (Or.inl ⟨by rfl, by intro w hSw;  clear hSw; go_simp⟩) hHeld4 ?_
            try simp only [Act.put, List.setIfInBounds_toArray, List.set_cons_zero, List.set_cons_succ]
            refine wpAnyH_take (i := 7) (oi := { dst := some 46, op := Op.nilCheck (Operand.tmp 45), type := 0, pos := "work.go:107", after := #[{ on := 6, ground := Ground.data }, { on := 5, ground := Ground.guard }], guard := some (5, false) }) (v := .pointer (some ⟨p, 0, none⟩)) rfl (by kernel_rfl) (by kernel_rfl) (by kernel_rfl) (fun _ _ _ h => h)
              (Or.inl ⟨by rfl, by intro w hSw;  clear hSw; go_simp⟩) hHeld4 ?_
            try simp only [Act.put, List.setIfInBounds_toArray, List.set_cons_zero, List.set_cons_succ]
            refine wpAnyH_take (i := 8) (oi := { dst := some 47, op := Op.fieldAddr 140 (Operand.tmp 46) 2, type := 0, pos := "work.go:107", after := #[{ on := 7, ground := Ground.data }, { on := 5, ground := Ground.guard }], guard := some (5, false) }) (v := .pointer (some ⟨p, 6, none⟩)) rfl (by kernel_rfl) (by kernel_rfl) (by kernel_rfl) (fun _ _ _ h => h)
              (Or.inl ⟨by rfl, by intro w hSw;  clear hSw; go_simp⟩) hHeld4 ?_
            try simp only [Act.put, List.setIfInBounds_toArray, List.set_cons_zero, List.set_cons_succ]
            refine wpAnyH_take (i := 9) (oi := { dst := some 48, op := Op.load 3 (Operand.tmp 47), type := 3, pos := "work.go:107", after := #[{ on := 8, ground := Ground.data }, { on := 5, ground := Ground.guard }], guard := some (5, false) }) (v := .int .i64 (C : Int)) rfl (by kernel_rfl) (by kernel_rfl) (by kernel_rfl) (fun _ _ _ h => h)
              (Or.inl ⟨by rfl, by intro w hSw; have hq := Has.cellAt hSw.2.2 (i := 6) rfl; clear hSw; go_simp⟩) hHeld4 ?_
            try simp only [Act.put, List.setIfInBounds_toArray, List.set_cons_zero, List.set_cons_succ]
            refine wpAnyH_take (i := 10) (oi := { dst := some 49, op := Op.binOp BinOp.gtr 3 (Operand.tmp 48) (Operand.const (Value.int IntKind.i64 65536)) 3, type := 4, pos := "work.go:107", after := #[{ on := 9, ground := Ground.data }, { on := 5, ground := Ground.guard }], guard := some (5, false) }) (v := .bool false) rfl (by kernel_rfl) (by kernel_rfl) (by kernel_rfl) (fun _ _ _ h => h)
              (Or.inl ⟨by rfl, by intro w hSw;  clear hSw; go_simp⟩) hHeld4 ?_
            try simp only [Act.put, List.setIfInBounds_toArray, List.set_cons_zero, List.set_cons_succ]
            refine wpAnyH_take (i := 11) (oi := { dst := some 50, op := Op.pick (Operand.tmp 44) (Operand.const (Value.bool true)) (Operand.tmp 49), type := 4, pos := "work.go:107", after := #[{ on := 5, ground := Ground.data }, { on := 10, ground := Ground.data }], guard := none }) (v := .bool false) rfl (by kernel_rfl) (by kernel_rfl) (by kernel_rfl) (fun _ _ _ h => h)
              (Or.inl ⟨by rfl, by intro w hSw;  clear hSw; go_simp⟩) hHeld4 ?_
            try simp only [Act.put, List.setIfInBounds_toArray, List.set_cons_zero, List.set_cons_succ]
            refine wpAnyH_take (i := 12) (oi := { dst := some 51, op := Op.move (Operand.tmp 50), type := 4, pos := "work.go:107", after := #[{ on := 11, ground := Ground.data }, { on := 5, ground := Ground.chain }], guard := none }) (v := .bool false) rfl (by kernel_rfl) (by kernel_rfl) (by kernel_rfl) (fun _ _ _ h => h)
              (Or.inl ⟨by rfl, by intro w hSw;  clear hSw; go_simp⟩) hHeld4 ?_
            try simp only [Act.put, List.setIfInBounds_toArray, List.set_cons_zero, List.set_cons_succ]
            refine wpAnyH_take (i := 13) (oi := { dst := some 52, op := Op.fieldAddr 180 (Operand.tmp 4) 3, type := 0, pos := "work.go:107", after := #[{ on := 12, ground := Ground.guard }], guard := some (12, false) }) (v := .pointer (some ⟨w.heap.size, 3, none⟩)) rfl (by kernel_rfl) (by kernel_rfl) (by kernel_rfl) (fun _ _ _ h => h)
              (Or.inl ⟨by rfl, by intro w hSw;  clear hSw; go_simp⟩) hHeld4 ?_
            try simp only [Act.put, List.setIfInBounds_toArray, List.set_cons_zero, List.set_cons_succ]
            refine wpAnyH_take (i := 14) (oi := { dst := some 53, op := Op.load 3 (Operand.tmp 52), type := 3, pos := "work.go:107", after := #[{ on := 13, ground := Ground.data }, { on := 12, ground := Ground.guard }], guard := some (12, false) }) (v := .int .i64 (dep : Int)) rfl (by kernel_rfl) (by kernel_rfl) (by kernel_rfl) (fun _ _ _ h => h)
              (Or.inl ⟨by rfl, by intro w hSw; have hq := Has.cellAt hSw.1 (i := 3) rfl; clear hSw; go_simp⟩) hHeld4 ?_
            try simp only [Act.put, List.setIfInBounds_toArray, List.set_cons_zero, List.set_cons_succ]
            refine wpAnyH_take (i := 15) (oi := { dst := some 54, op := Op.load 37 (Operand.tmp 5), type := 37, pos := "work.go:107", after := #[{ on := 12, ground := Ground.guard }], guard := some (12, false) }) rfl (by kernel_rfl) (by kernel_rfl) (by kernel_rfl) (fun _ _ _ h => h)
              (yieldsIf_load_mid (by rfl) 37 (.tmp 5) rfl (w.heap.size + 1) (0) rfl ct _ (fun _ h => has_range h.2.1) Tryz.underlying37 rfl HI5.out) hHeld4 ?_
            try simp only [Act.put, List.setIfInBounds_toArray, List.set_cons_zero, List.set_cons_succ]
            refine wpAnyH_ready (rs := [16]) (by kernel_rfl) (by simp) ?_
            refine AllReadyH.cons (o := { dst := some 55, op := Op.call { callee := Callee.value (Operand.func 143), args := #[Operand.tmp 54], argTypes := #[37] }, type := 3, pos := "work.go:107", after := #[{ on := 15, ground := Ground.data }, { on := 12, ground := Ground.chain }, { on := 12, ground := Ground.guard }], guard := some (12, false) }) rfl (fun K hK => ?_) AllReadyH.nil
            go_simp
            refine (height_any lv ct tt w8.drew (HTT.out w8.drew F8.out.drew) HNN.out).mono ?_
            rintro e w9 ⟨rfl, b9⟩
            have F9 : Hid (Fr (p :: db :: (blk vn ++ blk vk)) w w9) := Lib.hid ((F8.out.drew).trans (Fr.of_below (S := []) b9) (fun g hg => by simp at hg))
            have L9 : Hid (Below w8.heap.size w8 w9) := Lib.hid ((Below.refl w8.heap.size w8).drew.trans b9)
            clear b9
            go_wp2_with fail
            refine hK.out _ _ (⟨has_fr (S := []) G8.out (Fr.of_below L9.out) (by simp), has_fr (S := []) T8.out (Fr.of_below L9.out) (by simp), has_fr (S := []) P8.out (Fr.of_below L9.out) (by simp)⟩) (fun hHw1 => ?_)
            clear hK K hHeld4
            try simp only [Act.put, List.setIfInBounds_toArray, List.set_cons_zero, List.set_cons_succ]
            refine wpAnyH_take (i := 17) (oi := { dst := some 56, op := Op.binOp BinOp.add 3 (Operand.tmp 53) (Operand.tmp 55) 3, type := 3, pos := "work.go:107", after := #[{ on := 14, ground := Ground.data }, { on := 16, ground := Ground.data }, { on := 12, ground := Ground.guard }], guard := some (12, false) }) (v := .int .i64 ((dep : Int) + (heightT tt : Int))) rfl (by kernel_rfl) (by kernel_rfl) (by kernel_rfl) (fun _ _ _ h => h)
              (Or.inl ⟨by rfl, by intro w hSw;  clear hSw; go_simp <;> exact z5⟩) hHw1 ?_
            try simp only [Act.put, List.setIfInBounds_toArray, List.set_cons_zero, List.set_cons_succ]
            refine wpAnyH_take (i := 18) (oi := { dst := some 57, op := Op.binOp BinOp.gtr 3 (Operand.tmp 56) (Operand.const (Value.int IntKind.i64 16)) 3, type := 4, pos := "work.go:107", after := #[{ on := 17, ground := Ground.data }, { on := 12, ground := Ground.guard }], guard := some (12, false) }) (v := .bool true) rfl (by kernel_rfl) (by kernel_rfl) (by kernel_rfl) (fun _ _ _ h => h)
              (Or.inl ⟨by rfl, by intro w hSw;  clear hSw; go_simp⟩) hHw1 ?_
            try simp only [Act.put, List.setIfInBounds_toArray, List.set_cons_zero, List.set_cons_succ]
            refine wpAnyH_take (i := 19) (oi := { dst := some 58, op := Op.pick (Operand.tmp 51) (Operand.const (Value.bool true)) (Operand.tmp 57), type := 4, pos := "work.go:107", after := #[{ on := 12, ground := Ground.data }, { on := 18, ground := Ground.data }], guard := none }) (v := .bool true) rfl (by kernel_rfl) (by kernel_rfl) (by kernel_rfl) (fun _ _ _ h => h)
              (Or.inl ⟨by rfl, by intro w hSw;  clear hSw; go_simp⟩) hHw1 ?_
            try simp only [Act.put, List.setIfInBounds_toArray, List.set_cons_zero, List.set_cons_succ]
            refine wpAnyH_done (by kernel_rfl) ?_ _
            clear hHw1
            go_wp2_with fail
            go_ret
            exact RES.out _ _ (by first | (rw [if_pos (Or.inr (Or.inr (by omega)))]; rfl) | (rw [if_neg (by omega)]; rfl)) (F9.out) (L9.out)
          · have z3 : ¬ (16 : Int) < (dep : Int) + (heightT tt : Int) := by omega
            go_wp2_with fail
            refine wp_region_held_drew (S := fun W => Has W w.heap.size (spC db o nm i dep tk) 180 ∧ Has W (w.heap.size + 1) ct 37 ∧ Has W p (wkC c0 c1 c2 e3 e4 (A : Int) (C : Int)) 140) (by kernel_rfl) ⟨G8.out.drew, T8.out.drew, P8.out.drew⟩ (fun hHeld4 => ?_)
            refine wpAnyH_take (i := 0) (oi := { dst := some 39, op := Op.move (Operand.tmp 0), type := 136, pos := "work.go:107", after := #[], guard := none }) (v := .pointer (some ⟨p, 0, none⟩)) rfl (by kernel_rfl) (by kernel_rfl) (by kernel_rfl) (fun _ _ _ h => h)
              (Or.inl ⟨by rfl, by intro w hSw;  clear hSw; go_simp⟩) hHeld4 ?_
            try simp only [Act.put, List.setIfInBounds_toArray, List.set_cons_zero, List.set_cons_succ]
            refine wpAnyH_take (i := 1) (oi := { dst := some 40, op := Op.nilCheck (Operand.tmp 39), type := 0, pos := "work.go:107", after := #[{ on := 0, ground := Ground.data }], guard := none }) (v := .pointer (some ⟨p, 0, none⟩)) rfl (by kernel_rfl) (by kernel_rfl) (by kernel_rfl) (fun _ _ _ h => h)
              (Or.inl ⟨by rfl, by intro w hSw;  clear hSw; go_simp⟩) hHeld4 ?_
            try simp only [Act.put, List.setIfInBounds_toArray, List.set_cons_zero, List.set_cons_succ]
            refine wpAnyH_take (i := 2) (oi := { dst := some 41, op := Op.fieldAddr 140 (Operand.tmp 40) 1, type := 0, pos := "work.go:107", after := #[{ on := 1, ground := Ground.data }], guard := none }) (v := .pointer (some ⟨p, 5, none⟩)) rfl (by kernel_rfl) (by kernel_rfl) (by kernel_rfl) (fun _ _ _ h => h)
              (Or.inl ⟨by rfl, by intro w hSw;  clear hSw; go_simp⟩) hHeld4 ?_
            try simp only [Act.put, List.setIfInBounds_toArray, List.set_cons_zero, List.set_cons_succ]
            refine wpAnyH_take (i := 3) (oi := { dst := some 42, op := Op.load 3 (Operand.tmp 41), type := 3, pos := "work.go:107", after := #[{ on := 2, ground := Ground.data }], guard := none }) (v := .int .i64 (A : Int)) rfl (by kernel_rfl) (by kernel_rfl) (by kernel_rfl) (fun _ _ _ h => h)
              (Or.inl ⟨by rfl, by intro w hSw; have hq := Has.cellAt hSw.2.2 (i := 5) rfl; clear hSw; go_simp⟩) hHeld4 ?_
            try simp only [Act.put, List.setIfInBounds_toArray, List.set_cons_zero, List.set_cons_succ]
            refine wpAnyH_take (i := 4) (oi := { dst := some 43, op := Op.binOp BinOp.gtr 3 (Operand.tmp 42) (Operand.const (Value.int IntKind.i64 4096)) 3, type := 4, pos := "work.go:107", after := #[{ on := 3, ground := Ground.data }], guard := none }) (v := .bool false) rfl (by kernel_rfl) (by kernel_rfl) (by kernel_rfl) (fun _ _ _ h => h)
              (Or.inl ⟨by rfl, by intro w hSw;  clear hSw; go_simp⟩) hHeld4 ?_
            try simp only [Act.put, List.setIfInBounds_toArray, List.set_cons_zero, List.set_cons_succ]
            refine wpAnyH_take (i := 5) (oi := { dst := some 44, op := Op.move (Operand.tmp 43), type := 4, pos := "work.go:107", after := #[{ on := 4, ground := Ground.data }], guard := none }) (v := .bool false) rfl (by kernel_rfl) (by kernel_rfl) (by kernel_rfl) (fun _ _ _ h => h)
              (Or.inl ⟨by rfl, by intro w hSw;  clear hSw; go_simp⟩) hHeld4 ?_
            try simp only [Act.put, List.setIfInBounds_toArray, List.set_cons_zero, List.set_cons_succ]
            refine wpAnyH_take (i := 6) (oi := { dst := some 45, op := Op.move (Operand.tmp 0), type := 136, pos := "work.go:107", after := #[{ on := 5, ground := Ground.guard }], guard := some (5, false) }) (v := .pointer (some ⟨p, 0, none⟩)) rfl (by kernel_rfl) (by kernel_rfl) (by kernel_rfl) (fun _ _ _ h => h)
              (Or.inl ⟨by rfl, by intro w hSw;  clear hSw; go_simp⟩) hHeld4 ?_
            try simp only [Act.put, List.setIfInBounds_toArray, List.set_cons_zero, List.set_cons_succ]
            refine wpAnyH_take (i := 7) (oi := { dst := some 46, op := Op.nilCheck (Operand.tmp 45), type := 0, pos := "work.go:107", after := #[{ on := 6, ground := Ground.data }, { on := 5, ground := Ground.guard }], guard := some (5, false) }) (v := .pointer (some ⟨p, 0, none⟩)) rfl (by kernel_rfl) (by kernel_rfl) (by kernel_rfl) (fun _ _ _ h => h)
              (Or.inl ⟨by rfl, by intro w hSw;  clear hSw; go_simp⟩) hHeld4 ?_
            try simp only [Act.put, List.setIfInBounds_toArray, List.set_cons_zero, List.set_cons_succ]
            refine wpAnyH_take (i := 8) (oi := { dst := some 47, op := Op.fieldAddr 140 (Operand.tmp 46) 2, type := 0, pos := "work.go:107", after := #[{ on := 7, ground := Ground.data }, { on := 5, ground := Ground.guard }], guard := some (5, false) }) (v := .pointer (some ⟨p, 6, none⟩)) rfl (by kernel_rfl) (by kernel_rfl) (by kernel_rfl) (fun _ _ _ h => h)
              (Or.inl ⟨by rfl, by intro w hSw;  clear hSw; go_simp⟩) hHeld4 ?_
            try simp only [Act.put, List.setIfInBounds_toArray, List.set_cons_zero, List.set_cons_succ]
            refine wpAnyH_take (i := 9) (oi := { dst := some 48, op := Op.load 3 (Operand.tmp 47), type := 3, pos := "work.go:107", after := #[{ on := 8, ground := Ground.data }, { on := 5, ground := Ground.guard }], guard := some (5, false) }) (v := .int .i64 (C : Int)) rfl (by kernel_rfl) (by kernel_rfl) (by kernel_rfl) (fun _ _ _ h => h)
              (Or.inl ⟨by rfl, by intro w hSw; have hq := Has.cellAt hSw.2.2 (i := 6) rfl; clear hSw; go_simp⟩) hHeld4 ?_
            try simp only [Act.put, List.setIfInBounds_toArray, List.set_cons_zero, List.set_cons_succ]
            refine wpAnyH_take (i := 10) (oi := { dst := some 49, op := Op.binOp BinOp.gtr 3 (Operand.tmp 48) (Operand.const (Value.int IntKind.i64 65536)) 3, type := 4, pos := "work.go:107", after := #[{ on := 9, ground := Ground.data }, { on := 5, ground := Ground.guard }], guard := some (5, false) }) (v := .bool false) rfl (by kernel_rfl) (by kernel_rfl) (by kernel_rfl) (fun _ _ _ h => h)
              (Or.inl ⟨by rfl, by intro w hSw;  clear hSw; go_simp⟩) hHeld4 ?_
            try simp only [Act.put, List.setIfInBounds_toArray, List.set_cons_zero, List.set_cons_succ]
            refine wpAnyH_take (i := 11) (oi := { dst := some 50, op := Op.pick (Operand.tmp 44) (Operand.const (Value.bool true)) (Operand.tmp 49), type := 4, pos := "work.go:107", after := #[{ on := 5, ground := Ground.data }, { on := 10, ground := Ground.data }], guard := none }) (v := .bool false) rfl (by kernel_rfl) (by kernel_rfl) (by kernel_rfl) (fun _ _ _ h => h)
              (Or.inl ⟨by rfl, by intro w hSw;  clear hSw; go_simp⟩) hHeld4 ?_
            try simp only [Act.put, List.setIfInBounds_toArray, List.set_cons_zero, List.set_cons_succ]
            refine wpAnyH_take (i := 12) (oi := { dst := some 51, op := Op.move (Operand.tmp 50), type := 4, pos := "work.go:107", after := #[{ on := 11, ground := Ground.data }, { on := 5, ground := Ground.chain }], guard := none }) (v := .bool false) rfl (by kernel_rfl) (by kernel_rfl) (by kernel_rfl) (fun _ _ _ h => h)
              (Or.inl ⟨by rfl, by intro w hSw;  clear hSw; go_simp⟩) hHeld4 ?_
            try simp only [Act.put, List.setIfInBounds_toArray, List.set_cons_zero, List.set_cons_succ]
            refine wpAnyH_take (i := 13) (oi := { dst := some 52, op := Op.fieldAddr 180 (Operand.tmp 4) 3, type := 0, pos := "work.go:107", after := #[{ on := 12, ground := Ground.guard }], guard := some (12, false) }) (v := .pointer (some ⟨w.heap.size, 3, none⟩)) rfl (by kernel_rfl) (by kernel_rfl) (by kernel_rfl) (fun _ _ _ h => h)
              (Or.inl ⟨by rfl, by intro w hSw;  clear hSw; go_simp⟩) hHeld4 ?_
            try simp only [Act.put, List.setIfInBounds_toArray, List.set_cons_zero, List.set_cons_succ]
            refine wpAnyH_take (i := 14) (oi := { dst := some 53, op := Op.load 3 (Operand.tmp 52), type := 3, pos := "work.go:107", after := #[{ on := 13, ground := Ground.data }, { on := 12, ground := Ground.guard }], guard := some (12, false) }) (v := .int .i64 (dep : Int)) rfl (by kernel_rfl) (by kernel_rfl) (by kernel_rfl) (fun _ _ _ h => h)
              (Or.inl ⟨by rfl, by intro w hSw; have hq := Has.cellAt hSw.1 (i := 3) rfl; clear hSw; go_simp⟩) hHeld4 ?_
            try simp only [Act.put, List.setIfInBounds_toArray, List.set_cons_zero, List.set_cons_succ]
            refine wpAnyH_take (i := 15) (oi := { dst := some 54, op := Op.load 37 (Operand.tmp 5), type := 37, pos := "work.go:107", after := #[{ on := 12, ground := Ground.guard }], guard := some (12, false) }) rfl (by kernel_rfl) (by kernel_rfl) (by kernel_rfl) (fun _ _ _ h => h)
              (yieldsIf_load_mid (by rfl) 37 (.tmp 5) rfl (w.heap.size + 1) (0) rfl ct _ (fun _ h => has_range h.2.1) Tryz.underlying37 rfl HI5.out) hHeld4 ?_
            try simp only [Act.put, List.setIfInBounds_toArray, List.set_cons_zero, List.set_cons_succ]
            refine wpAnyH_ready (rs := [16]) (by kernel_rfl) (by simp) ?_
            refine AllReadyH.cons (o := { dst := some 55, op := Op.call { callee := Callee.value (Operand.func 143), args := #[Operand.tmp 54], argTypes := #[37] }, type := 3, pos := "work.go:107", after := #[{ on := 15, ground := Ground.data }, { on := 12, ground := Ground.chain }, { on := 12, ground := Ground.guard }], guard := some (12, false) }) rfl (fun K hK => ?_) AllReadyH.nil
            go_simp
            refine (height_any lv ct tt w8.drew (HTT.out w8.drew F8.out.drew) HNN.out).mono ?_
            rintro e w9 ⟨rfl, b9⟩
            have F9 : Hid (Fr (p :: db :: (blk vn ++ blk vk)) w w9) := Lib.hid ((F8.out.drew).trans (Fr.of_below (S := []) b9) (fun g hg => by simp at hg))
            have L9 : Hid (Below w8.heap.size w8 w9) := Lib.hid ((Below.refl w8.heap.size w8).drew.trans b9)
            clear b9
            go_wp2_with fail
            refine hK.out _ _ (⟨has_fr (S := []) G8.out (Fr.of_below L9.out) (by simp), has_fr (S := []) T8.out (Fr.of_below L9.out) (by simp), has_fr (S := []) P8.out (Fr.of_below L9.out) (by simp)⟩) (fun hHw1 => ?_)
            clear hK K hHeld4
            try simp only [Act.put, List.setIfInBounds_toArray, List.set_cons_zero, List.set_cons_succ]
            refine wpAnyH_take (i := 17) (oi := { dst := some 56, op := Op.binOp BinOp.add 3 (Operand.tmp 53) (Operand.tmp 55) 3, type := 3, pos := "work.go:107", after := #[{ on := 14, ground := Ground.data }, { on := 16, ground := Ground.data }, { on := 12, ground := Ground.guard }], guard := some (12, false) }) (v := .int .i64 ((dep : Int) + (heightT tt : Int))) rfl (by kernel_rfl) (by kernel_rfl) (by kernel_rfl) (fun _ _ _ h => h)
              (Or.inl ⟨by rfl, by intro w hSw;  clear hSw; go_simp <;> exact z5⟩) hHw1 ?_
            try simp only [Act.put, List.setIfInBounds_toArray, List.set_cons_zero, List.set_cons_succ]
            refine wpAnyH_take (i := 18) (oi := { dst := some 57, op := Op.binOp BinOp.gtr 3 (Operand.tmp 56) (Operand.const (Value.int IntKind.i64 16)) 3, type := 4, pos := "work.go:107", after := #[{ on := 17, ground := Ground.data }, { on := 12, ground := Ground.guard }], guard := some (12, false) }) (v := .bool false) rfl (by kernel_rfl) (by kernel_rfl) (by kernel_rfl) (fun _ _ _ h => h)
              (Or.inl ⟨by rfl, by intro w hSw;  clear hSw; go_simp⟩) hHw1 ?_
            try simp only [Act.put, List.setIfInBounds_toArray, List.set_cons_zero, List.set_cons_succ]
            refine wpAnyH_take (i := 19) (oi := { dst := some 58, op := Op.pick (Operand.tmp 51) (Operand.const (Value.bool true)) (Operand.tmp 57), type := 4, pos := "work.go:107", after := #[{ on := 12, ground := Ground.data }, { on := 18, ground := Ground.data }], guard := none }) (v := .bool false) rfl (by kernel_rfl) (by kernel_rfl) (by kernel_rfl) (fun _ _ _ h => h)
              (Or.inl ⟨by rfl, by intro w hSw;  clear hSw; go_simp⟩) hHw1 ?_
            try simp only [Act.put, List.setIfInBounds_toArray, List.set_cons_zero, List.set_cons_succ]
            refine wpAnyH_done (by kernel_rfl) ?_ _
            clear hHw1
            go_wp2_with fail
            go_ret
            exact RES.out _ _ (by first | (rw [if_pos (by omega)]; rfl) | (rw [if_neg (by omega)]; rfl)) (F9.out) (L9.out)
    · obtain ⟨tk0, tx0, a1, n1, m1, a2, n2, m2, a3, n3, m3, hsh⟩ := HSH.out
      rw [hsh]
      go_simp
      obtain ⟨w5, hw5⟩ : ∃ w5, w5 = (w4.alloc (.cells #[.int .u8 (tk0.toNat : Int), .bool tx0, .slice a1 n1 m1, .slice a2 n2 m2, .slice a3 n3 m3] 37)).drew := ⟨_, rfl⟩
      have X5 : Hid (Has w5 db (X.set (o + 3) (.slice va vl vc)) ty) := Lib.hid (by rw [hw5]; exact (X4.out.alloc _).drew)
      have G5 : Hid (Has w5 w.heap.size (spC db o nm i dep tk) 180) := Lib.hid (by rw [hw5]; exact (G4.out.alloc _).drew)
      have T5 : Hid (Has w5 (w.heap.size + 1) ct 37) := Lib.hid (by rw [hw5]; exact (T4.out.alloc _).drew)
      have N5 : Hid (w5.ownsRow B tS 1 (.slice va vl vc) (ns.length + 1) ((ns.take i ++ nm :: ns.drop i).map Value.string)) := Lib.hid (by rw [hw5]; exact owns_drew (owns_alloc N4.out _))
      have K5 : Hid (w5.ownsRow B tT 5 vk ns.length L) := Lib.hid (by rw [hw5]; exact owns_drew (owns_alloc K4.out _))
      have V5 : Hid (Has w5 w4.heap.size ct 37) := Lib.hid (by rw [hw5, hsh]; exact (Has.new w4 [.int .u8 (tk0.toNat : Int), .bool tx0, .slice a1 n1 m1, .slice a2 n2 m2, .slice a3 n3 m3] _).drew)
      have F5 : Hid (Fr (db :: blk vn) w w5) := Lib.hid (by rw [hw5]; exact (F4.out.alloc _).drew)
      have S5 : Hid (w5.heap.size = w4.heap.size + 1) := Lib.hid (by rw [hw5]; simp)
      first | rw [← hw5] | skip
      clear hw5 hsh
      refine hK.out _ _ (⟨G5.out, T5.out⟩) (fun hHw1 => ?_)
      clear hK K hHeld2
      try simp only [Act.put, List.setIfInBounds_toArray, List.set_cons_zero, List.set_cons_succ]
      refine wpAnyH_ready (rs := [6]) (by kernel_rfl) (by simp) ?_
      refine AllReadyH.cons (o := { dst := some 28, op := Op.load 35 (Operand.tmp 27), type := 35, pos := "work.go:105", after := #[{ on := 5, ground := Ground.data }], guard := none }) rfl (fun K hK => ?_) AllReadyH.nil
      have q3 : World.cell? w5 ⟨db, o + 4, none⟩ = some vk := Has.cellAt (X5.out) X44.out
      go_simp
      clear q3
      refine hK.out _ _ (⟨G5.out, T5.out⟩) (fun hHw2 => ?_)
      clear hK K hHw1
      try simp only [Act.put, List.setIfInBounds_toArray, List.set_cons_zero, List.set_cons_succ]
      refine wpAnyH_ready (rs := [11]) (by kernel_rfl) (by simp) ?_
      refine AllReadyH.cons (o := { dst := some 33, op := Op.call { callee := Callee.value (Operand.func 141), args := #[Operand.tmp 28, Operand.tmp 30, Operand.tmp 32], argTypes := #[35, 3, 35] }, type := 35, pos := "work.go:105", after := #[{ on := 6, ground := Ground.data }, { on := 8, ground := Ground.data }, { on := 10, ground := Ground.data }], guard := none }) rfl (fun K hK => ?_) AllReadyH.nil
      go_simp
      have hcl := insT_any K5.out (by have := S5.out; have := S4.out; have := HB.out; omega) (by have := HL.out; omega) HI.out (vb := w4.heap.size) V5.out HCT.out (fun e => by have := blk_lt K4.out e; omega) H1L.out H1C.out
      rw [hvk] at hcl
      refine hcl.mono ?_
      rw [← hvk]
      rintro e w6 ⟨VK0, rfl, ho6, hg6, hb6⟩
      obtain ⟨ua, ul, uc, rfl⟩ := slice_owned ho6
      have K6 := Lib.hid ho6
      have N6 : Hid (w6.ownsRow B tS 1 (.slice va vl vc) (ns.length + 1) ((ns.take i ++ nm :: ns.drop i).map Value.string)) := Lib.hid (owns_grown3 N5.out K5.out (by decide) hg6)
      have GR6 : Hid (Fr (blk vk) w5 w6) := Lib.hid (Fr.of_grown hg6 (fun g h => mem_blk.2 h))
      have HVK : Hid (∀ g, (Value.slice ua ul uc).ownBlock = some g → vk.ownBlock = some g ∨ w5.heap.size ≤ g) := Lib.hid hb6
      have S5L : Hid (w.heap.size ≤ w5.heap.size) := Lib.hid (by have := S5.out; have := S4.out; omega)
      have X6 : Hid (Has w6 db (X.set (o + 3) (.slice va vl vc)) ty) := Lib.hid (has_fr X5.out GR6.out (fun h => HKD.out (mem_blk.1 h)))
      have NK : Hid (∀ g, g < w.heap.size + 1 + 1 → w.heap.size ≤ g → g ∉ blk vk) := Lib.hid (fun g h1 h2 h3 => by have := blk_lt HK.out (mem_blk.1 h3); omega)
      have G6 : Hid (Has w6 w.heap.size (spC db o nm i dep tk) 180) := Lib.hid (has_fr G5.out GR6.out (NK.out _ (by omega) (by omega)))
      have T6 : Hid (Has w6 (w.heap.size + 1) ct 37) := Lib.hid (has_fr T5.out GR6.out (NK.out _ (by omega) (by omega)))
      have F6 : Hid (Fr (db :: (blk vn ++ blk vk)) w w6) := Lib.hid ((F5.out.mono (S' := db :: (blk vn ++ blk vk)) (fun g hg _ => by
        rcases List.mem_cons.1 hg with h | h
        · simp [h]
        · simp [h])).trans GR6.out (fun g hg _ => by simp [hg]))
      clear ho6 hg6 hb6 hcl
      go_wp2_with fail
      refine hK.out _ _ (⟨G6.out, T6.out⟩) (fun hHw3 => ?_)
      clear hK K hHw2
      try simp only [Act.put, List.setIfInBounds_toArray, List.set_cons_zero, List.set_cons_succ]
      refine wpAnyH_take (i := 12) (oi := { dst := some 34, op := Op.nilCheck (Operand.tmp 23), type := 0, pos := "work.go:105", after := #[{ on := 1, ground := Ground.data }, { on := 0, ground := Ground.phase }, { on := 1, ground := Ground.phase }, { on := 2, ground := Ground.phase }, { on := 3, ground := Ground.phase }, { on := 4, ground := Ground.phase }, { on := 5, ground := Ground.phase }, { on := 6, ground := Ground.phase }, { on := 7, ground := Ground.phase }, { on := 8, ground := Ground.phase }, { on := 9, ground := Ground.phase }, { on := 10, ground := Ground.phase }, { on := 11, ground := Ground.phase }], guard := none }) (v := .pointer (some ⟨db, o, none⟩)) rfl (by kernel_rfl) (by kernel_rfl) (by kernel_rfl) (fun _ _ _ h => h)
        (Or.inl ⟨by rfl, by intro w hSw;  clear hSw; go_simp⟩) hHw3 ?_
      try simp only [Act.put, List.setIfInBounds_toArray, List.set_cons_zero, List.set_cons_succ]
      refine wpAnyH_take (i := 13) (oi := { dst := some 35, op := Op.fieldAddr 37 (Operand.tmp 34) 4, type := 0, pos := "work.go:105", after := #[{ on := 12, ground := Ground.data }, { on := 0, ground := Ground.phase }, { on := 1, ground := Ground.phase }, { on := 2, ground := Ground.phase }, { on := 3, ground := Ground.phase }, { on := 4, ground := Ground.phase }, { on := 5, ground := Ground.phase }, { on := 6, ground := Ground.phase }, { on := 7, ground := Ground.phase }, { on := 8, ground := Ground.phase }, { on := 9, ground := Ground.phase }, { on := 10, ground := Ground.phase }, { on := 11, ground := Ground.phase }], guard := none }) (v := .pointer (some ⟨db, o + 4, none⟩)) rfl (by kernel_rfl) (by kernel_rfl) (by kernel_rfl) (fun _ _ _ h => h)
        (Or.inl ⟨by rfl, by intro w hSw;  clear hSw; go_simp⟩) hHw3 ?_
      try simp only [Act.put, List.setIfInBounds_toArray, List.set_cons_zero, List.set_cons_succ]
      refine wpAnyH_ready (rs := [14]) (by kernel_rfl) (by simp) ?_
      refine AllReadyH.cons (o := { dst := none, op := Op.store 35 (Operand.tmp 35) (Operand.tmp 33), type := 0, pos := "work.go:105", after := #[{ on := 13, ground := Ground.data }, { on := 11, ground := Ground.data }, { on := 11, ground := Ground.chain }, { on := 0, ground := Ground.phase }, { on := 1, ground := Ground.phase }, { on := 2, ground := Ground.phase }, { on := 3, ground := Ground.phase }, { on := 4, ground := Ground.phase }, { on := 5, ground := Ground.phase }, { on := 6, ground := Ground.phase }, { on := 7, ground := Ground.phase }, { on := 8, ground := Ground.phase }, { on := 9, ground := Ground.phase }, { on := 10, ground := Ground.phase }, { on := 11, ground := Ground.phase }], guard := none }) rfl (fun K hK => ?_) AllReadyH.nil
      have q3 : w6.cell? ⟨db, o + 4, none⟩ = some vk := Has.cellAt X6.out X44.out
      have f3 : w6.frozen? ⟨db, o + 4, none⟩ = false := X6.out.frozen (o + 4)
      go_simp
      clear q3 f3
      obtain ⟨w7, hw7⟩ : ∃ w7, w7 = w6.setCell ⟨db, o + 4, none⟩ (.slice ua ul uc) := ⟨_, rfl⟩
      have X7 : Hid (Has w7 db ((X.set (o + 3) (.slice va vl vc)).set (o + 4) (.slice ua ul uc)) ty) := Lib.hid (by rw [hw7]; exact X6.out.set (o + 4) _)
      have KD7 : Hid ((Value.slice ua ul uc).ownBlock ≠ some db) := Lib.hid (fun e => by
        rcases HVK.out db e with h | h
        · exact HKD.out h
        · have := S5.out; have := S4.out; have := hdl.out; omega)
      have K7 : Hid (w7.ownsRow B tT 5 (.slice ua ul uc) (ns.length + 1) (L.take (i * 5) ++ ct ++ L.drop (i * 5))) := Lib.hid (by rw [hw7]; exact owns_set2 K6.out KD7.out _ _)
      have N7 : Hid (w7.ownsRow B tS 1 (.slice va vl vc) (ns.length + 1) ((ns.take i ++ nm :: ns.drop i).map Value.string)) := Lib.hid (by rw [hw7]; exact owns_set2 N6.out ND4.out _ _)
      have G7 : Hid (Has w7 w.heap.size (spC db o nm i dep tk) 180) := Lib.hid (by rw [hw7]; exact G6.out.setOther (a := ⟨db, o + 4, none⟩) (by have := hdl.out; show w.heap.size ≠ db; omega) _)
      have T7 : Hid (Has w7 (w.heap.size + 1) ct 37) := Lib.hid (by rw [hw7]; exact T6.out.setOther (a := ⟨db, o + 4, none⟩) (by have := hdl.out; show w.heap.size + 1 ≠ db; omega) _)
      have F7 : Hid (Fr (db :: (blk vn ++ blk vk)) w w7) := Lib.hid (by rw [hw7]; exact F6.out.setCell (.inl (by simp)) _ _)
      have S7 : Hid (w.heap.size + 1 + 1 + 1 ≤ w7.heap.size) := Lib.hid (by have h0 := GR6.out.size; have h1 := S4.out; have h2 := S5.out; have h3 : w7.heap.size = w6.heap.size := (by rw [hw7]; simp [World.setCell]); omega)
      first | rw [← hw7] | skip
      clear hw7 X4 N4 K4 G4 T4 F4 X5 N5 K5 G5 T5 F5 X6 N6 K6 G6 T6 F6 V5 GR6
      refine hK.out _ _ (⟨G7.out, T7.out⟩) (fun hHw4 => ?_)
      clear hK K hHw3
      try simp only [Act.put, List.setIfInBounds_toArray, List.set_cons_zero, List.set_cons_succ]
      refine wpAnyH_done (by kernel_rfl) ?_ _
      clear hHw4
      have PP : Hid (∃ e3 e4, Has w7 p (wkC c0 c1 c2 e3 e4 (a : Int) (b : Int)) 140 ∧ (p = db → e3 = .slice va vl vc ∧ e4 = .slice ua ul uc) ∧ (p ≠ db → e3 = c3 ∧ e4 = c4)) := Lib.hid (by
        rcases HPP.out with ⟨rfl, rfl, rfl, rfl⟩ | ⟨h1, h2⟩
        · exact ⟨_, _, X7.out, fun _ => ⟨rfl, rfl⟩, fun h => absurd rfl h⟩
        · refine ⟨c3, c4, has_fr h2 F7.out (fun hm => ?_), fun h => absurd h h1, fun _ => ⟨rfl, rfl⟩⟩
          rcases List.mem_cons.1 hm with h3 | h3
          · exact h1 h3
          · rcases List.mem_append.1 h3 with h4 | h4
            · exact own_type2 HN.out h2 (by decide) (mem_blk.1 h4)
            · exact own_type2 HK.out h2 (by decide) (mem_blk.1 h4))
      obtain ⟨e3, e4, hp7, he1, he2⟩ := PP.out
      have P7 := Lib.hid hp7
      have HE1 := Lib.hid he1
      have HE2 := Lib.hid he2
      have HTC := Lib.hid (show IsT w7 lv ct tt from HTT.out w7 (F7.out.mono (fun g hg _ => List.mem_cons_of_mem _ hg)))
      have T7r : Hid (w7.heap[w.heap.size + 1]? = some (.cells ct.toArray 37 (0, 0))) := Lib.hid (show _ from T7.out)
      have HIA : Hid ((Tryz.prog.info? 37).map (·.size) = some ct.toArray.size) := Lib.hid (by rw [HI5.out]; simp)
      clear hp7 he1 he2 PP
      go_wp2_with (refine wpList_load_row rfl 37 _ rfl (w.heap.size + 1) rfl 37 ct.toArray (0, 0) _ T7r.out Tryz.underlying37 rfl HIA.out ?_)
      refine (count_w lv ct tt w7 p c0 c1 c2 e3 e4 (a : Int) (b : Int) 1 x y HTC.out P7.out HZZ.out (.inl rfl) HBA.out HBB.out).mono ?_
      rintro e w8 ⟨rfl, hp8, hb8⟩
      obtain ⟨A, hA⟩ : ∃ A, A = a + x := ⟨_, rfl⟩
      obtain ⟨C, hC⟩ : ∃ C, C = b + y := ⟨_, rfl⟩
      have P8 : Hid (Has w8 p (wkC c0 c1 c2 e3 e4 (A : Int) (C : Int)) 140) := Lib.hid (by rw [hA, hC, Int.natCast_add, Int.natCast_add]; rw [Int.one_mul, Int.one_mul] at hp8; exact hp8)
      have B8 := Lib.hid hb8
      have HA := Lib.hid hA
      have HC := Lib.hid hC
      have PLT : Hid (p < w7.heap.size) := Lib.hid P7.out.lt
      have PW : Hid (p < w.heap.size) := Lib.hid (by
        rcases HPP.out with ⟨rfl, _, _, _⟩ | ⟨h1, h2⟩
        · exact hdl.out
        · exact h2.lt)
      have F8 : Hid (Fr (p :: db :: (blk vn ++ blk vk)) w w8) := Lib.hid ((F7.out.mono (S' := p :: db :: (blk vn ++ blk vk)) (fun g hg _ => List.mem_cons_of_mem _ hg)).trans (Fr.of_but (S := [p]) hb8 (.inl (by simp))) (fun g hg _ => by simp only [List.mem_cons, List.not_mem_nil, or_false] at hg; simp [hg]))
      have G8 : Hid (Has w8 w.heap.size (spC db o nm i dep tk) 180) := Lib.hid (G7.out.but hb8 G7.out.lt (by have := PW.out; omega))
      have T8 : Hid (Has w8 (w.heap.size + 1) ct 37) := Lib.hid (T7.out.but hb8 T7.out.lt (by have := PW.out; omega))
      have RES : Hid (∀ (e : Ending) (w' : World), e = .returned (.int .i64 (if 4096 < A ∨ 65536 < C ∨ 16 < dep + heightT tt then 2 else 0)) → Fr (p :: db :: (blk vn ++ blk vk)) w w' → Below w8.heap.size w8 w' → LayP w B p db o X L ct ty vn vk c0 c1 c2 c3 c4 ns nm i a b x y dep tt e w') := Lib.hid (fun e w' he hf hl => by
        rw [HA.out, HC.out] at he
        have hP8 : Has w' p (wkC c0 c1 c2 e3 e4 (A : Int) (C : Int)) 140 := has_fr (S := []) P8.out (Fr.of_below hl) (by simp)
        have hl8 : Fr [p] w7 w' := (Fr.of_but (S := [p]) B8.out (.inl (by simp))).trans (Fr.of_below (S := []) hl) (fun g hg => by simp at hg)
        rw [HA.out, HC.out] at hP8
        have hpn : p ∉ blk (Value.slice va vl vc) := fun h => own_type2 N7.out P7.out (by decide) (mem_blk.1 h)
        have hpk : p ∉ blk (Value.slice ua ul uc) := fun h => own_type2 K7.out P7.out (by decide) (mem_blk.1 h)
        refine ⟨.slice va vl vc, .slice ua ul uc, he, fun h => ?_, fun h => ⟨has_fr X7.out hl8 (by simp only [List.mem_cons, List.not_mem_nil, or_false]; exact fun e => h e.symm), ?_⟩, owns_fr N7.out hl8 (fun g hg hm => ?_), owns_fr K7.out hl8 (fun g hg hm => ?_), hf, fun g hg => ?_, fun g hg => ?_⟩
        · obtain ⟨rfl, rfl⟩ := HE1.out h
          exact hP8
        · obtain ⟨rfl, rfl⟩ := HE2.out h
          exact hP8
        · simp only [List.mem_cons, List.not_mem_nil, or_false] at hm
          subst hm
          exact hpn hg
        · simp only [List.mem_cons, List.not_mem_nil, or_false] at hm
          subst hm
          exact hpk hg
        · rcases HVN.out g hg with h | h
          · exact .inl h
          · exact .inr (by have := S2L.out; omega)
        · rcases HVK.out g hg with h | h
          · exact .inl h
          · exact .inr (by have := S5L.out; omega))
      clear hp8 hb8 P7 T7r HTC hA hC B8 N7 K7 X7 G7 T7 F7 HVN HVK
      by_cases q1 : 4096 < A
      · have z1 : (4096 : Int) < (A : Int) := by omega
        go_wp2_with fail
        refine wp_region_held_drew (S := fun W => Has W w.heap.size (spC db o nm i dep tk) 180 ∧ Has W (w.heap.size + 1) ct 37 ∧ Has W p (wkC c0 c1 c2 e3 e4 (A : Int) (C : Int)) 140) (by kernel_rfl) ⟨G8.out.drew, T8.out.drew, P8.out.drew⟩ (fun hHeld4 => ?_)
        refine wpAnyH_take (i := 0) (oi := { dst := some 39, op := Op.move (Operand.tmp 0), type := 136, pos := "work.go:107", after := #[], guard := none }) (v := .pointer (some ⟨p, 0, none⟩)) rfl (by kernel_rfl) (by kernel_rfl) (by kernel_rfl) (fun _ _ _ h => h)
          (Or.inl ⟨by rfl, by intro w hSw;  clear hSw; go_simp⟩) hHeld4 ?_
        try simp only [Act.put, List.setIfInBounds_toArray, List.set_cons_zero, List.set_cons_succ]
        refine wpAnyH_take (i := 1) (oi := { dst := some 40, op := Op.nilCheck (Operand.tmp 39), type := 0, pos := "work.go:107", after := #[{ on := 0, ground := Ground.data }], guard := none }) (v := .pointer (some ⟨p, 0, none⟩)) rfl (by kernel_rfl) (by kernel_rfl) (by kernel_rfl) (fun _ _ _ h => h)
          (Or.inl ⟨by rfl, by intro w hSw;  clear hSw; go_simp⟩) hHeld4 ?_
        try simp only [Act.put, List.setIfInBounds_toArray, List.set_cons_zero, List.set_cons_succ]
        refine wpAnyH_take (i := 2) (oi := { dst := some 41, op := Op.fieldAddr 140 (Operand.tmp 40) 1, type := 0, pos := "work.go:107", after := #[{ on := 1, ground := Ground.data }], guard := none }) (v := .pointer (some ⟨p, 5, none⟩)) rfl (by kernel_rfl) (by kernel_rfl) (by kernel_rfl) (fun _ _ _ h => h)
          (Or.inl ⟨by rfl, by intro w hSw;  clear hSw; go_simp⟩) hHeld4 ?_
        try simp only [Act.put, List.setIfInBounds_toArray, List.set_cons_zero, List.set_cons_succ]
        refine wpAnyH_take (i := 3) (oi := { dst := some 42, op := Op.load 3 (Operand.tmp 41), type := 3, pos := "work.go:107", after := #[{ on := 2, ground := Ground.data }], guard := none }) (v := .int .i64 (A : Int)) rfl (by kernel_rfl) (by kernel_rfl) (by kernel_rfl) (fun _ _ _ h => h)
          (Or.inl ⟨by rfl, by intro w hSw; have hq := Has.cellAt hSw.2.2 (i := 5) rfl; clear hSw; go_simp⟩) hHeld4 ?_
        try simp only [Act.put, List.setIfInBounds_toArray, List.set_cons_zero, List.set_cons_succ]
        refine wpAnyH_take (i := 4) (oi := { dst := some 43, op := Op.binOp BinOp.gtr 3 (Operand.tmp 42) (Operand.const (Value.int IntKind.i64 4096)) 3, type := 4, pos := "work.go:107", after := #[{ on := 3, ground := Ground.data }], guard := none }) (v := .bool true) rfl (by kernel_rfl) (by kernel_rfl) (by kernel_rfl) (fun _ _ _ h => h)
          (Or.inl ⟨by rfl, by intro w hSw;  clear hSw; go_simp⟩) hHeld4 ?_
        try simp only [Act.put, List.setIfInBounds_toArray, List.set_cons_zero, List.set_cons_succ]
        refine wpAnyH_take (i := 5) (oi := { dst := some 44, op := Op.move (Operand.tmp 43), type := 4, pos := "work.go:107", after := #[{ on := 4, ground := Ground.data }], guard := none }) (v := .bool true) rfl (by kernel_rfl) (by kernel_rfl) (by kernel_rfl) (fun _ _ _ h => h)
          (Or.inl ⟨by rfl, by intro w hSw;  clear hSw; go_simp⟩) hHeld4 ?_
        try simp only [Act.put, List.setIfInBounds_toArray, List.set_cons_zero, List.set_cons_succ]
        refine wpAnyH_take (i := 6) (oi := { dst := some 45, op := Op.move (Operand.tmp 0), type := 136, pos := "work.go:107", after := #[{ on := 5, ground := Ground.guard }], guard := some (5, false) }) (v := undef) rfl (by kernel_rfl) (by kernel_rfl) (by kernel_rfl) (fun _ _ _ h => h)
          (Or.inr ⟨by rfl, by rfl⟩) hHeld4 ?_
        try simp only [Act.put, List.setIfInBounds_toArray, List.set_cons_zero, List.set_cons_succ]
        refine wpAnyH_take (i := 7) (oi := { dst := some 46, op := Op.nilCheck (Operand.tmp 45), type := 0, pos := "work.go:107", after := #[{ on := 6, ground := Ground.data }, { on := 5, ground := Ground.guard }], guard := some (5, false) }) (v := undef) rfl (by kernel_rfl) (by kernel_rfl) (by kernel_rfl) (fun _ _ _ h => h)
          (Or.inr ⟨by rfl, by rfl⟩) hHeld4 ?_
        try simp only [Act.put, List.setIfInBounds_toArray, List.set_cons_zero, List.set_cons_succ]
        refine wpAnyH_take (i := 8) (oi := { dst := some 47, op := Op.fieldAddr 140 (Operand.tmp 46) 2, type := 0, pos := "work.go:107", after := #[{ on := 7, ground := Ground.data }, { on := 5, ground := Ground.guard }], guard := some (5, false) }) (v := undef) rfl (by kernel_rfl) (by kernel_rfl) (by kernel_rfl) (fun _ _ _ h => h)
          (Or.inr ⟨by rfl, by rfl⟩) hHeld4 ?_
        try simp only [Act.put, List.setIfInBounds_toArray, List.set_cons_zero, List.set_cons_succ]
        refine wpAnyH_take (i := 9) (oi := { dst := some 48, op := Op.load 3 (Operand.tmp 47), type := 3, pos := "work.go:107", after := #[{ on := 8, ground := Ground.data }, { on := 5, ground := Ground.guard }], guard := some (5, false) }) (v := undef) rfl (by kernel_rfl) (by kernel_rfl) (by kernel_rfl) (fun _ _ _ h => h)
          (Or.inr ⟨by rfl, by rfl⟩) hHeld4 ?_
        try simp only [Act.put, List.setIfInBounds_toArray, List.set_cons_zero, List.set_cons_succ]
        refine wpAnyH_take (i := 10) (oi := { dst := some 49, op := Op.binOp BinOp.gtr 3 (Operand.tmp 48) (Operand.const (Value.int IntKind.i64 65536)) 3, type := 4, pos := "work.go:107", after := #[{ on := 9, ground := Ground.data }, { on := 5, ground := Ground.guard }], guard := some (5, false) }) (v := undef) rfl (by kernel_rfl) (by kernel_rfl) (by kernel_rfl) (fun _ _ _ h => h)
          (Or.inr ⟨by rfl, by rfl⟩) hHeld4 ?_
        try simp only [Act.put, List.setIfInBounds_toArray, List.set_cons_zero, List.set_cons_succ]
        refine wpAnyH_take (i := 11) (oi := { dst := some 50, op := Op.pick (Operand.tmp 44) (Operand.const (Value.bool true)) (Operand.tmp 49), type := 4, pos := "work.go:107", after := #[{ on := 5, ground := Ground.data }, { on := 10, ground := Ground.data }], guard := none }) (v := .bool true) rfl (by kernel_rfl) (by kernel_rfl) (by kernel_rfl) (fun _ _ _ h => h)
          (Or.inl ⟨by rfl, by intro w hSw;  clear hSw; go_simp⟩) hHeld4 ?_
        try simp only [Act.put, List.setIfInBounds_toArray, List.set_cons_zero, List.set_cons_succ]
        refine wpAnyH_take (i := 12) (oi := { dst := some 51, op := Op.move (Operand.tmp 50), type := 4, pos := "work.go:107", after := #[{ on := 11, ground := Ground.data }, { on := 5, ground := Ground.chain }], guard := none }) (v := .bool true) rfl (by kernel_rfl) (by kernel_rfl) (by kernel_rfl) (fun _ _ _ h => h)
          (Or.inl ⟨by rfl, by intro w hSw;  clear hSw; go_simp⟩) hHeld4 ?_
        try simp only [Act.put, List.setIfInBounds_toArray, List.set_cons_zero, List.set_cons_succ]
        refine wpAnyH_take (i := 13) (oi := { dst := some 52, op := Op.fieldAddr 180 (Operand.tmp 4) 3, type := 0, pos := "work.go:107", after := #[{ on := 12, ground := Ground.guard }], guard := some (12, false) }) (v := undef) rfl (by kernel_rfl) (by kernel_rfl) (by kernel_rfl) (fun _ _ _ h => h)
          (Or.inr ⟨by rfl, by rfl⟩) hHeld4 ?_
        try simp only [Act.put, List.setIfInBounds_toArray, List.set_cons_zero, List.set_cons_succ]
        refine wpAnyH_take (i := 14) (oi := { dst := some 53, op := Op.load 3 (Operand.tmp 52), type := 3, pos := "work.go:107", after := #[{ on := 13, ground := Ground.data }, { on := 12, ground := Ground.guard }], guard := some (12, false) }) (v := undef) rfl (by kernel_rfl) (by kernel_rfl) (by kernel_rfl) (fun _ _ _ h => h)
          (Or.inr ⟨by rfl, by rfl⟩) hHeld4 ?_
        try simp only [Act.put, List.setIfInBounds_toArray, List.set_cons_zero, List.set_cons_succ]
        refine wpAnyH_take (i := 15) (oi := { dst := some 54, op := Op.load 37 (Operand.tmp 5), type := 37, pos := "work.go:107", after := #[{ on := 12, ground := Ground.guard }], guard := some (12, false) }) (v := undef) rfl (by kernel_rfl) (by kernel_rfl) (by kernel_rfl) (fun _ _ _ h => h)
          (Or.inr ⟨by rfl, by rfl⟩) hHeld4 ?_
        try simp only [Act.put, List.setIfInBounds_toArray, List.set_cons_zero, List.set_cons_succ]
        refine wpAnyH_take (i := 16) (oi := { dst := some 55, op := Op.call { callee := Callee.value (Operand.func 143), args := #[Operand.tmp 54], argTypes := #[37] }, type := 3, pos := "work.go:107", after := #[{ on := 15, ground := Ground.data }, { on := 12, ground := Ground.chain }, { on := 12, ground := Ground.guard }], guard := some (12, false) }) (v := undef) rfl (by kernel_rfl) (by kernel_rfl) (by kernel_rfl) (fun _ _ _ h => h)
          (Or.inr ⟨by rfl, by rfl⟩) hHeld4 ?_
        try simp only [Act.put, List.setIfInBounds_toArray, List.set_cons_zero, List.set_cons_succ]
        refine wpAnyH_take (i := 17) (oi := { dst := some 56, op := Op.binOp BinOp.add 3 (Operand.tmp 53) (Operand.tmp 55) 3, type := 3, pos := "work.go:107", after := #[{ on := 14, ground := Ground.data }, { on := 16, ground := Ground.data }, { on := 12, ground := Ground.guard }], guard := some (12, false) }) (v := undef) rfl (by kernel_rfl) (by kernel_rfl) (by kernel_rfl) (fun _ _ _ h => h)
          (Or.inr ⟨by rfl, by rfl⟩) hHeld4 ?_
        try simp only [Act.put, List.setIfInBounds_toArray, List.set_cons_zero, List.set_cons_succ]
        refine wpAnyH_take (i := 18) (oi := { dst := some 57, op := Op.binOp BinOp.gtr 3 (Operand.tmp 56) (Operand.const (Value.int IntKind.i64 16)) 3, type := 4, pos := "work.go:107", after := #[{ on := 17, ground := Ground.data }, { on := 12, ground := Ground.guard }], guard := some (12, false) }) (v := undef) rfl (by kernel_rfl) (by kernel_rfl) (by kernel_rfl) (fun _ _ _ h => h)
          (Or.inr ⟨by rfl, by rfl⟩) hHeld4 ?_
        try simp only [Act.put, List.setIfInBounds_toArray, List.set_cons_zero, List.set_cons_succ]
        refine wpAnyH_take (i := 19) (oi := { dst := some 58, op := Op.pick (Operand.tmp 51) (Operand.const (Value.bool true)) (Operand.tmp 57), type := 4, pos := "work.go:107", after := #[{ on := 12, ground := Ground.data }, { on := 18, ground := Ground.data }], guard := none }) (v := .bool true) rfl (by kernel_rfl) (by kernel_rfl) (by kernel_rfl) (fun _ _ _ h => h)
          (Or.inl ⟨by rfl, by intro w hSw;  clear hSw; go_simp⟩) hHeld4 ?_
        try simp only [Act.put, List.setIfInBounds_toArray, List.set_cons_zero, List.set_cons_succ]
        refine wpAnyH_done (by kernel_rfl) ?_ _
        clear hHeld4
        go_wp2_with fail
        go_ret
        exact RES.out _ _ (by first | (rw [if_pos (Or.inl (by omega))]; rfl) | (rw [if_neg (by omega)]; rfl)) (F8.out.drew) ((Below.refl w8.heap.size w8).drew)
      · have z1 : ¬ (4096 : Int) < (A : Int) := by omega
        by_cases q2 : 65536 < C
        · have z2 : (65536 : Int) < (C : Int) := by omega
          go_wp2_with fail
          refine wp_region_held_drew (S := fun W => Has W w.heap.size (spC db o nm i dep tk) 180 ∧ Has W (w.heap.size + 1) ct 37 ∧ Has W p (wkC c0 c1 c2 e3 e4 (A : Int) (C : Int)) 140) (by kernel_rfl) ⟨G8.out.drew, T8.out.drew, P8.out.drew⟩ (fun hHeld4 => ?_)
          refine wpAnyH_take (i := 0) (oi := { dst := some 39, op := Op.move (Operand.tmp 0), type := 136, pos := "work.go:107", after := #[], guard := none }) (v := .pointer (some ⟨p, 0, none⟩)) rfl (by kernel_rfl) (by kernel_rfl) (by kernel_rfl) (fun _ _ _ h => h)
            (Or.inl ⟨by rfl, by intro w hSw;  clear hSw; go_simp⟩) hHeld4 ?_
          try simp only [Act.put, List.setIfInBounds_toArray, List.set_cons_zero, List.set_cons_succ]
          refine wpAnyH_take (i := 1) (oi := { dst := some 40, op := Op.nilCheck (Operand.tmp 39), type := 0, pos := "work.go:107", after := #[{ on := 0, ground := Ground.data }], guard := none }) (v := .pointer (some ⟨p, 0, none⟩)) rfl (by kernel_rfl) (by kernel_rfl) (by kernel_rfl) (fun _ _ _ h => h)
            (Or.inl ⟨by rfl, by intro w hSw;  clear hSw; go_simp⟩) hHeld4 ?_
          try simp only [Act.put, List.setIfInBounds_toArray, List.set_cons_zero, List.set_cons_succ]
          refine wpAnyH_take (i := 2) (oi := { dst := some 41, op := Op.fieldAddr 140 (Operand.tmp 40) 1, type := 0, pos := "work.go:107", after := #[{ on := 1, ground := Ground.data }], guard := none }) (v := .pointer (some ⟨p, 5, none⟩)) rfl (by kernel_rfl) (by kernel_rfl) (by kernel_rfl) (fun _ _ _ h => h)
            (Or.inl ⟨by rfl, by intro w hSw;  clear hSw; go_simp⟩) hHeld4 ?_
          try simp only [Act.put, List.setIfInBounds_toArray, List.set_cons_zero, List.set_cons_succ]
          refine wpAnyH_take (i := 3) (oi := { dst := some 42, op := Op.load 3 (Operand.tmp 41), type := 3, pos := "work.go:107", after := #[{ on := 2, ground := Ground.data }], guard := none }) (v := .int .i64 (A : Int)) rfl (by kernel_rfl) (by kernel_rfl) (by kernel_rfl) (fun _ _ _ h => h)
            (Or.inl ⟨by rfl, by intro w hSw; have hq := Has.cellAt hSw.2.2 (i := 5) rfl; clear hSw; go_simp⟩) hHeld4 ?_
          try simp only [Act.put, List.setIfInBounds_toArray, List.set_cons_zero, List.set_cons_succ]
          refine wpAnyH_take (i := 4) (oi := { dst := some 43, op := Op.binOp BinOp.gtr 3 (Operand.tmp 42) (Operand.const (Value.int IntKind.i64 4096)) 3, type := 4, pos := "work.go:107", after := #[{ on := 3, ground := Ground.data }], guard := none }) (v := .bool false) rfl (by kernel_rfl) (by kernel_rfl) (by kernel_rfl) (fun _ _ _ h => h)
            (Or.inl ⟨by rfl, by intro w hSw;  clear hSw; go_simp⟩) hHeld4 ?_
          try simp only [Act.put, List.setIfInBounds_toArray, List.set_cons_zero, List.set_cons_succ]
          refine wpAnyH_take (i := 5) (oi := { dst := some 44, op := Op.move (Operand.tmp 43), type := 4, pos := "work.go:107", after := #[{ on := 4, ground := Ground.data }], guard := none }) (v := .bool false) rfl (by kernel_rfl) (by kernel_rfl) (by kernel_rfl) (fun _ _ _ h => h)
            (Or.inl ⟨by rfl, by intro w hSw;  clear hSw; go_simp⟩) hHeld4 ?_
          try simp only [Act.put, List.setIfInBounds_toArray, List.set_cons_zero, List.set_cons_succ]
          refine wpAnyH_take (i := 6) (oi := { dst := some 45, op := Op.move (Operand.tmp 0), type := 136, pos := "work.go:107", after := #[{ on := 5, ground := Ground.guard }], guard := some (5, false) }) (v := .pointer (some ⟨p, 0, none⟩)) rfl (by kernel_rfl) (by kernel_rfl) (by kernel_rfl) (fun _ _ _ h => h)
            (Or.inl ⟨by rfl, by intro w hSw;  clear hSw; go_simp⟩) hHeld4 ?_
          try simp only [Act.put, List.setIfInBounds_toArray, List.set_cons_zero, List.set_cons_succ]
          refine wpAnyH_take (i := 7) (oi := { dst := some 46, op := Op.nilCheck (Operand.tmp 45), type := 0, pos := "work.go:107", after := #[{ on := 6, ground := Ground.data }, { on := 5, ground := Ground.guard }], guard := some (5, false) }) (v := .pointer (some ⟨p, 0, none⟩)) rfl (by kernel_rfl) (by kernel_rfl) (by kernel_rfl) (fun _ _ _ h => h)
            (Or.inl ⟨by rfl, by intro w hSw;  clear hSw; go_simp⟩) hHeld4 ?_
          try simp only [Act.put, List.setIfInBounds_toArray, List.set_cons_zero, List.set_cons_succ]
          refine wpAnyH_take (i := 8) (oi := { dst := some 47, op := Op.fieldAddr 140 (Operand.tmp 46) 2, type := 0, pos := "work.go:107", after := #[{ on := 7, ground := Ground.data }, { on := 5, ground := Ground.guard }], guard := some (5, false) }) (v := .pointer (some ⟨p, 6, none⟩)) rfl (by kernel_rfl) (by kernel_rfl) (by kernel_rfl) (fun _ _ _ h => h)
            (Or.inl ⟨by rfl, by intro w hSw;  clear hSw; go_simp⟩) hHeld4 ?_
          try simp only [Act.put, List.setIfInBounds_toArray, List.set_cons_zero, List.set_cons_succ]
          refine wpAnyH_take (i := 9) (oi := { dst := some 48, op := Op.load 3 (Operand.tmp 47), type := 3, pos := "work.go:107", after := #[{ on := 8, ground := Ground.data }, { on := 5, ground := Ground.guard }], guard := some (5, false) }) (v := .int .i64 (C : Int)) rfl (by kernel_rfl) (by kernel_rfl) (by kernel_rfl) (fun _ _ _ h => h)
            (Or.inl ⟨by rfl, by intro w hSw; have hq := Has.cellAt hSw.2.2 (i := 6) rfl; clear hSw; go_simp⟩) hHeld4 ?_
          try simp only [Act.put, List.setIfInBounds_toArray, List.set_cons_zero, List.set_cons_succ]
          refine wpAnyH_take (i := 10) (oi := { dst := some 49, op := Op.binOp BinOp.gtr 3 (Operand.tmp 48) (Operand.const (Value.int IntKind.i64 65536)) 3, type := 4, pos := "work.go:107", after := #[{ on := 9, ground := Ground.data }, { on := 5, ground := Ground.guard }], guard := some (5, false) }) (v := .bool true) rfl (by kernel_rfl) (by kernel_rfl) (by kernel_rfl) (fun _ _ _ h => h)
            (Or.inl ⟨by rfl, by intro w hSw;  clear hSw; go_simp⟩) hHeld4 ?_
          try simp only [Act.put, List.setIfInBounds_toArray, List.set_cons_zero, List.set_cons_succ]
          refine wpAnyH_take (i := 11) (oi := { dst := some 50, op := Op.pick (Operand.tmp 44) (Operand.const (Value.bool true)) (Operand.tmp 49), type := 4, pos := "work.go:107", after := #[{ on := 5, ground := Ground.data }, { on := 10, ground := Ground.data }], guard := none }) (v := .bool true) rfl (by kernel_rfl) (by kernel_rfl) (by kernel_rfl) (fun _ _ _ h => h)
            (Or.inl ⟨by rfl, by intro w hSw;  clear hSw; go_simp⟩) hHeld4 ?_
          try simp only [Act.put, List.setIfInBounds_toArray, List.set_cons_zero, List.set_cons_succ]
          refine wpAnyH_take (i := 12) (oi := { dst := some 51, op := Op.move (Operand.tmp 50), type := 4, pos := "work.go:107", after := #[{ on := 11, ground := Ground.data }, { on := 5, ground := Ground.chain }], guard := none }) (v := .bool true) rfl (by kernel_rfl) (by kernel_rfl) (by kernel_rfl) (fun _ _ _ h => h)
            (Or.inl ⟨by rfl, by intro w hSw;  clear hSw; go_simp⟩) hHeld4 ?_
          try simp only [Act.put, List.setIfInBounds_toArray, List.set_cons_zero, List.set_cons_succ]
          refine wpAnyH_take (i := 13) (oi := { dst := some 52, op := Op.fieldAddr 180 (Operand.tmp 4) 3, type := 0, pos := "work.go:107", after := #[{ on := 12, ground := Ground.guard }], guard := some (12, false) }) (v := undef) rfl (by kernel_rfl) (by kernel_rfl) (by kernel_rfl) (fun _ _ _ h => h)
            (Or.inr ⟨by rfl, by rfl⟩) hHeld4 ?_
          try simp only [Act.put, List.setIfInBounds_toArray, List.set_cons_zero, List.set_cons_succ]
          refine wpAnyH_take (i := 14) (oi := { dst := some 53, op := Op.load 3 (Operand.tmp 52), type := 3, pos := "work.go:107", after := #[{ on := 13, ground := Ground.data }, { on := 12, ground := Ground.guard }], guard := some (12, false) }) (v := undef) rfl (by kernel_rfl) (by kernel_rfl) (by kernel_rfl) (fun _ _ _ h => h)
            (Or.inr ⟨by rfl, by rfl⟩) hHeld4 ?_
          try simp only [Act.put, List.setIfInBounds_toArray, List.set_cons_zero, List.set_cons_succ]
          refine wpAnyH_take (i := 15) (oi := { dst := some 54, op := Op.load 37 (Operand.tmp 5), type := 37, pos := "work.go:107", after := #[{ on := 12, ground := Ground.guard }], guard := some (12, false) }) (v := undef) rfl (by kernel_rfl) (by kernel_rfl) (by kernel_rfl) (fun _ _ _ h => h)
            (Or.inr ⟨by rfl, by rfl⟩) hHeld4 ?_
          try simp only [Act.put, List.setIfInBounds_toArray, List.set_cons_zero, List.set_cons_succ]
          refine wpAnyH_take (i := 16) (oi := { dst := some 55, op := Op.call { callee := Callee.value (Operand.func 143), args := #[Operand.tmp 54], argTypes := #[37] }, type := 3, pos := "work.go:107", after := #[{ on := 15, ground := Ground.data }, { on := 12, ground := Ground.chain }, { on := 12, ground := Ground.guard }], guard := some (12, false) }) (v := undef) rfl (by kernel_rfl) (by kernel_rfl) (by kernel_rfl) (fun _ _ _ h => h)
            (Or.inr ⟨by rfl, by rfl⟩) hHeld4 ?_
          try simp only [Act.put, List.setIfInBounds_toArray, List.set_cons_zero, List.set_cons_succ]
          refine wpAnyH_take (i := 17) (oi := { dst := some 56, op := Op.binOp BinOp.add 3 (Operand.tmp 53) (Operand.tmp 55) 3, type := 3, pos := "work.go:107", after := #[{ on := 14, ground := Ground.data }, { on := 16, ground := Ground.data }, { on := 12, ground := Ground.guard }], guard := some (12, false) }) (v := undef) rfl (by kernel_rfl) (by kernel_rfl) (by kernel_rfl) (fun _ _ _ h => h)
            (Or.inr ⟨by rfl, by rfl⟩) hHeld4 ?_
          try simp only [Act.put, List.setIfInBounds_toArray, List.set_cons_zero, List.set_cons_succ]
          refine wpAnyH_take (i := 18) (oi := { dst := some 57, op := Op.binOp BinOp.gtr 3 (Operand.tmp 56) (Operand.const (Value.int IntKind.i64 16)) 3, type := 4, pos := "work.go:107", after := #[{ on := 17, ground := Ground.data }, { on := 12, ground := Ground.guard }], guard := some (12, false) }) (v := undef) rfl (by kernel_rfl) (by kernel_rfl) (by kernel_rfl) (fun _ _ _ h => h)
            (Or.inr ⟨by rfl, by rfl⟩) hHeld4 ?_
          try simp only [Act.put, List.setIfInBounds_toArray, List.set_cons_zero, List.set_cons_succ]
          refine wpAnyH_take (i := 19) (oi := { dst := some 58, op := Op.pick (Operand.tmp 51) (Operand.const (Value.bool true)) (Operand.tmp 57), type := 4, pos := "work.go:107", after := #[{ on := 12, ground := Ground.data }, { on := 18, ground := Ground.data }], guard := none }) (v := .bool true) rfl (by kernel_rfl) (by kernel_rfl) (by kernel_rfl) (fun _ _ _ h => h)
            (Or.inl ⟨by rfl, by intro w hSw;  clear hSw; go_simp⟩) hHeld4 ?_
          try simp only [Act.put, List.setIfInBounds_toArray, List.set_cons_zero, List.set_cons_succ]
          refine wpAnyH_done (by kernel_rfl) ?_ _
          clear hHeld4
          go_wp2_with fail
          go_ret
          exact RES.out _ _ (by first | (rw [if_pos (Or.inr (Or.inl (by omega)))]; rfl) | (rw [if_neg (by omega)]; rfl)) (F8.out.drew) ((Below.refl w8.heap.size w8).drew)
        · have z2 : ¬ (65536 : Int) < (C : Int) := by omega
          have z4 : (dep : Int) + (heightT tt : Int) ≤ 9223372036854775807 ∧ 0 ≤ (heightT tt : Int) ∧ 0 ≤ (dep : Int) := ⟨by have h1 := heightT_lt tt; have h2 := HNN.out; have h3 := HDP.out; omega, by omega, by omega⟩
          have z5 : IntKind.i64.wrap ((dep : Int) + (heightT tt : Int)) = (dep : Int) + (heightT tt : Int) := by rw [IntKind.wrap_i64]; omega
          by_cases q3 : 16 < dep + heightT tt
          · have z3 : (16 : Int) < (dep : Int) + (heightT tt : Int) := by omega
            go_wp2_with fail
            refine wp_region_held_drew (S := fun W => Has W w.heap.size (spC db o nm i dep tk) 180 ∧ Has W (w.heap.size + 1) ct 37 ∧ Has W p (wkC c0 c1 c2 e3 e4 (A : Int) (C : Int)) 140) (by kernel_rfl) ⟨G8.out.drew, T8.out.drew, P8.out.drew⟩ (fun hHeld4 => ?_)
            refine wpAnyH_take (i := 0) (oi := { dst := some 39, op := Op.move (Operand.tmp 0), type := 136, pos := "work.go:107", after := #[], guard := none }) (v := .pointer (some ⟨p, 0, none⟩)) rfl (by kernel_rfl) (by kernel_rfl) (by kernel_rfl) (fun _ _ _ h => h)
              (Or.inl ⟨by rfl, by intro w hSw;  clear hSw; go_simp⟩) hHeld4 ?_
            try simp only [Act.put, List.setIfInBounds_toArray, List.set_cons_zero, List.set_cons_succ]
            refine wpAnyH_take (i := 1) (oi := { dst := some 40, op := Op.nilCheck (Operand.tmp 39), type := 0, pos := "work.go:107", after := #[{ on := 0, ground := Ground.data }], guard := none }) (v := .pointer (some ⟨p, 0, none⟩)) rfl (by kernel_rfl) (by kernel_rfl) (by kernel_rfl) (fun _ _ _ h => h)
              (Or.inl ⟨by rfl, by intro w hSw;  clear hSw; go_simp⟩) hHeld4 ?_
            try simp only [Act.put, List.setIfInBounds_toArray, List.set_cons_zero, List.set_cons_succ]
            refine wpAnyH_take (i := 2) (oi := { dst := some 41, op := Op.fieldAddr 140 (Operand.tmp 40) 1, type := 0, pos := "work.go:107", after := #[{ on := 1, ground := Ground.data }], guard := none }) (v := .pointer (some ⟨p, 5, none⟩)) rfl (by kernel_rfl) (by kernel_rfl) (by kernel_rfl) (fun _ _ _ h => h)
              (Or.inl ⟨by rfl, by intro w hSw;  clear hSw; go_simp⟩) hHeld4 ?_
            try simp only [Act.put, List.setIfInBounds_toArray, List.set_cons_zero, List.set_cons_succ]
            refine wpAnyH_take (i := 3) (oi := { dst := some 42, op := Op.load 3 (Operand.tmp 41), type := 3, pos := "work.go:107", after := #[{ on := 2, ground := Ground.data }], guard := none }) (v := .int .i64 (A : Int)) rfl (by kernel_rfl) (by kernel_rfl) (by kernel_rfl) (fun _ _ _ h => h)
              (Or.inl ⟨by rfl, by intro w hSw; have hq := Has.cellAt hSw.2.2 (i := 5) rfl; clear hSw; go_simp⟩) hHeld4 ?_
            try simp only [Act.put, List.setIfInBounds_toArray, List.set_cons_zero, List.set_cons_succ]
            refine wpAnyH_take (i := 4) (oi := { dst := some 43, op := Op.binOp BinOp.gtr 3 (Operand.tmp 42) (Operand.const (Value.int IntKind.i64 4096)) 3, type := 4, pos := "work.go:107", after := #[{ on := 3, ground := Ground.data }], guard := none }) (v := .bool false) rfl (by kernel_rfl) (by kernel_rfl) (by kernel_rfl) (fun _ _ _ h => h)
              (Or.inl ⟨by rfl, by intro w hSw;  clear hSw; go_simp⟩) hHeld4 ?_
            try simp only [Act.put, List.setIfInBounds_toArray, List.set_cons_zero, List.set_cons_succ]
            refine wpAnyH_take (i := 5) (oi := { dst := some 44, op := Op.move (Operand.tmp 43), type := 4, pos := "work.go:107", after := #[{ on := 4, ground := Ground.data }], guard := none }) (v := .bool false) rfl (by kernel_rfl) (by kernel_rfl) (by kernel_rfl) (fun _ _ _ h => h)
              (Or.inl ⟨by rfl, by intro w hSw;  clear hSw; go_simp⟩) hHeld4 ?_
            try simp only [Act.put, List.setIfInBounds_toArray, List.set_cons_zero, List.set_cons_succ]
            refine wpAnyH_take (i := 6) (oi := { dst := some 45, op := Op.move (Operand.tmp 0), type := 136, pos := "work.go:107", after := #[{ on := 5, ground := Ground.guard }], guard := some (5, false) }) (v := .pointer (some ⟨p, 0, none⟩)) rfl (by kernel_rfl) (by kernel_rfl) (by kernel_rfl) (fun _ _ _ h => h)
              (Or.inl ⟨by rfl, by intro w hSw;  clear hSw; go_simp⟩) hHeld4 ?_
            try simp only [Act.put, List.setIfInBounds_toArray, List.set_cons_zero, List.set_cons_succ]
            refine wpAnyH_take (i := 7) (oi := { dst := some 46, op := Op.nilCheck (Operand.tmp 45), type := 0, pos := "work.go:107", after := #[{ on := 6, ground := Ground.data }, { on := 5, ground := Ground.guard }], guard := some (5, false) }) (v := .pointer (some ⟨p, 0, none⟩)) rfl (by kernel_rfl) (by kernel_rfl) (by kernel_rfl) (fun _ _ _ h => h)
              (Or.inl ⟨by rfl, by intro w hSw;  clear hSw; go_simp⟩) hHeld4 ?_
            try simp only [Act.put, List.setIfInBounds_toArray, List.set_cons_zero, List.set_cons_succ]
            refine wpAnyH_take (i := 8) (oi := { dst := some 47, op := Op.fieldAddr 140 (Operand.tmp 46) 2, type := 0, pos := "work.go:107", after := #[{ on := 7, ground := Ground.data }, { on := 5, ground := Ground.guard }], guard := some (5, false) }) (v := .pointer (some ⟨p, 6, none⟩)) rfl (by kernel_rfl) (by kernel_rfl) (by kernel_rfl) (fun _ _ _ h => h)
              (Or.inl ⟨by rfl, by intro w hSw;  clear hSw; go_simp⟩) hHeld4 ?_
            try simp only [Act.put, List.setIfInBounds_toArray, List.set_cons_zero, List.set_cons_succ]
            refine wpAnyH_take (i := 9) (oi := { dst := some 48, op := Op.load 3 (Operand.tmp 47), type := 3, pos := "work.go:107", after := #[{ on := 8, ground := Ground.data }, { on := 5, ground := Ground.guard }], guard := some (5, false) }) (v := .int .i64 (C : Int)) rfl (by kernel_rfl) (by kernel_rfl) (by kernel_rfl) (fun _ _ _ h => h)
              (Or.inl ⟨by rfl, by intro w hSw; have hq := Has.cellAt hSw.2.2 (i := 6) rfl; clear hSw; go_simp⟩) hHeld4 ?_
            try simp only [Act.put, List.setIfInBounds_toArray, List.set_cons_zero, List.set_cons_succ]
            refine wpAnyH_take (i := 10) (oi := { dst := some 49, op := Op.binOp BinOp.gtr 3 (Operand.tmp 48) (Operand.const (Value.int IntKind.i64 65536)) 3, type := 4, pos := "work.go:107", after := #[{ on := 9, ground := Ground.data }, { on := 5, ground := Ground.guard }], guard := some (5, false) }) (v := .bool false) rfl (by kernel_rfl) (by kernel_rfl) (by kernel_rfl) (fun _ _ _ h => h)
              (Or.inl ⟨by rfl, by intro w hSw;  clear hSw; go_simp⟩) hHeld4 ?_
            try simp only [Act.put, List.setIfInBounds_toArray, List.set_cons_zero, List.set_cons_succ]
            refine wpAnyH_take (i := 11) (oi := { dst := some 50, op := Op.pick (Operand.tmp 44) (Operand.const (Value.bool true)) (Operand.tmp 49), type := 4, pos := "work.go:107", after := #[{ on := 5, ground := Ground.data }, { on := 10, ground := Ground.data }], guard := none }) (v := .bool false) rfl (by kernel_rfl) (by kernel_rfl) (by kernel_rfl) (fun _ _ _ h => h)
              (Or.inl ⟨by rfl, by intro w hSw;  clear hSw; go_simp⟩) hHeld4 ?_
            try simp only [Act.put, List.setIfInBounds_toArray, List.set_cons_zero, List.set_cons_succ]
            refine wpAnyH_take (i := 12) (oi := { dst := some 51, op := Op.move (Operand.tmp 50), type := 4, pos := "work.go:107", after := #[{ on := 11, ground := Ground.data }, { on := 5, ground := Ground.chain }], guard := none }) (v := .bool false) rfl (by kernel_rfl) (by kernel_rfl) (by kernel_rfl) (fun _ _ _ h => h)
              (Or.inl ⟨by rfl, by intro w hSw;  clear hSw; go_simp⟩) hHeld4 ?_
            try simp only [Act.put, List.setIfInBounds_toArray, List.set_cons_zero, List.set_cons_succ]
            refine wpAnyH_take (i := 13) (oi := { dst := some 52, op := Op.fieldAddr 180 (Operand.tmp 4) 3, type := 0, pos := "work.go:107", after := #[{ on := 12, ground := Ground.guard }], guard := some (12, false) }) (v := .pointer (some ⟨w.heap.size, 3, none⟩)) rfl (by kernel_rfl) (by kernel_rfl) (by kernel_rfl) (fun _ _ _ h => h)
              (Or.inl ⟨by rfl, by intro w hSw;  clear hSw; go_simp⟩) hHeld4 ?_
            try simp only [Act.put, List.setIfInBounds_toArray, List.set_cons_zero, List.set_cons_succ]
            refine wpAnyH_take (i := 14) (oi := { dst := some 53, op := Op.load 3 (Operand.tmp 52), type := 3, pos := "work.go:107", after := #[{ on := 13, ground := Ground.data }, { on := 12, ground := Ground.guard }], guard := some (12, false) }) (v := .int .i64 (dep : Int)) rfl (by kernel_rfl) (by kernel_rfl) (by kernel_rfl) (fun _ _ _ h => h)
              (Or.inl ⟨by rfl, by intro w hSw; have hq := Has.cellAt hSw.1 (i := 3) rfl; clear hSw; go_simp⟩) hHeld4 ?_
            try simp only [Act.put, List.setIfInBounds_toArray, List.set_cons_zero, List.set_cons_succ]
            refine wpAnyH_take (i := 15) (oi := { dst := some 54, op := Op.load 37 (Operand.tmp 5), type := 37, pos := "work.go:107", after := #[{ on := 12, ground := Ground.guard }], guard := some (12, false) }) rfl (by kernel_rfl) (by kernel_rfl) (by kernel_rfl) (fun _ _ _ h => h)
              (yieldsIf_load_mid (by rfl) 37 (.tmp 5) rfl (w.heap.size + 1) (0) rfl ct _ (fun _ h => has_range h.2.1) Tryz.underlying37 rfl HI5.out) hHeld4 ?_
            try simp only [Act.put, List.setIfInBounds_toArray, List.set_cons_zero, List.set_cons_succ]
            refine wpAnyH_ready (rs := [16]) (by kernel_rfl) (by simp) ?_
            refine AllReadyH.cons (o := { dst := some 55, op := Op.call { callee := Callee.value (Operand.func 143), args := #[Operand.tmp 54], argTypes := #[37] }, type := 3, pos := "work.go:107", after := #[{ on := 15, ground := Ground.data }, { on := 12, ground := Ground.chain }, { on := 12, ground := Ground.guard }], guard := some (12, false) }) rfl (fun K hK => ?_) AllReadyH.nil
            go_simp
            refine (height_any lv ct tt w8.drew (HTT.out w8.drew F8.out.drew) HNN.out).mono ?_
            rintro e w9 ⟨rfl, b9⟩
            have F9 : Hid (Fr (p :: db :: (blk vn ++ blk vk)) w w9) := Lib.hid ((F8.out.drew).trans (Fr.of_below (S := []) b9) (fun g hg => by simp at hg))
            have L9 : Hid (Below w8.heap.size w8 w9) := Lib.hid ((Below.refl w8.heap.size w8).drew.trans b9)
            clear b9
            go_wp2_with fail
            refine hK.out _ _ (⟨has_fr (S := []) G8.out (Fr.of_below L9.out) (by simp), has_fr (S := []) T8.out (Fr.of_below L9.out) (by simp), has_fr (S := []) P8.out (Fr.of_below L9.out) (by simp)⟩) (fun hHw1 => ?_)
            clear hK K hHeld4
            try simp only [Act.put, List.setIfInBounds_toArray, List.set_cons_zero, List.set_cons_succ]
            refine wpAnyH_take (i := 17) (oi := { dst := some 56, op := Op.binOp BinOp.add 3 (Operand.tmp 53) (Operand.tmp 55) 3, type := 3, pos := "work.go:107", after := #[{ on := 14, ground := Ground.data }, { on := 16, ground := Ground.data }, { on := 12, ground := Ground.guard }], guard := some (12, false) }) (v := .int .i64 ((dep : Int) + (heightT tt : Int))) rfl (by kernel_rfl) (by kernel_rfl) (by kernel_rfl) (fun _ _ _ h => h)
              (Or.inl ⟨by rfl, by intro w hSw;  clear hSw; go_simp <;> exact z5⟩) hHw1 ?_
            try simp only [Act.put, List.setIfInBounds_toArray, List.set_cons_zero, List.set_cons_succ]
            refine wpAnyH_take (i := 18) (oi := { dst := some 57, op := Op.binOp BinOp.gtr 3 (Operand.tmp 56) (Operand.const (Value.int IntKind.i64 16)) 3, type := 4, pos := "work.go:107", after := #[{ on := 17, ground := Ground.data }, { on := 12, ground := Ground.guard }], guard := some (12, false) }) (v := .bool true) rfl (by kernel_rfl) (by kernel_rfl) (by kernel_rfl) (fun _ _ _ h => h)
              (Or.inl ⟨by rfl, by intro w hSw;  clear hSw; go_simp⟩) hHw1 ?_
            try simp only [Act.put, List.setIfInBounds_toArray, List.set_cons_zero, List.set_cons_succ]
            refine wpAnyH_take (i := 19) (oi := { dst := some 58, op := Op.pick (Operand.tmp 51) (Operand.const (Value.bool true)) (Operand.tmp 57), type := 4, pos := "work.go:107", after := #[{ on := 12, ground := Ground.data }, { on := 18, ground := Ground.data }], guard := none }) (v := .bool true) rfl (by kernel_rfl) (by kernel_rfl) (by kernel_rfl) (fun _ _ _ h => h)
              (Or.inl ⟨by rfl, by intro w hSw;  clear hSw; go_simp⟩) hHw1 ?_
            try simp only [Act.put, List.setIfInBounds_toArray, List.set_cons_zero, List.set_cons_succ]
            refine wpAnyH_done (by kernel_rfl) ?_ _
            clear hHw1
            go_wp2_with fail
            go_ret
            exact RES.out _ _ (by first | (rw [if_pos (Or.inr (Or.inr (by omega)))]; rfl) | (rw [if_neg (by omega)]; rfl)) (F9.out) (L9.out)
          · have z3 : ¬ (16 : Int) < (dep : Int) + (heightT tt : Int) := by omega
            go_wp2_with fail
            refine wp_region_held_drew (S := fun W => Has W w.heap.size (spC db o nm i dep tk) 180 ∧ Has W (w.heap.size + 1) ct 37 ∧ Has W p (wkC c0 c1 c2 e3 e4 (A : Int) (C : Int)) 140) (by kernel_rfl) ⟨G8.out.drew, T8.out.drew, P8.out.drew⟩ (fun hHeld4 => ?_)
            refine wpAnyH_take (i := 0) (oi := { dst := some 39, op := Op.move (Operand.tmp 0), type := 136, pos := "work.go:107", after := #[], guard := none }) (v := .pointer (some ⟨p, 0, none⟩)) rfl (by kernel_rfl) (by kernel_rfl) (by kernel_rfl) (fun _ _ _ h => h)
              (Or.inl ⟨by rfl, by intro w hSw;  clear hSw; go_simp⟩) hHeld4 ?_
            try simp only [Act.put, List.setIfInBounds_toArray, List.set_cons_zero, List.set_cons_succ]
            refine wpAnyH_take (i := 1) (oi := { dst := some 40, op := Op.nilCheck (Operand.tmp 39), type := 0, pos := "work.go:107", after := #[{ on := 0, ground := Ground.data }], guard := none }) (v := .pointer (some ⟨p, 0, none⟩)) rfl (by kernel_rfl) (by kernel_rfl) (by kernel_rfl) (fun _ _ _ h => h)
              (Or.inl ⟨by rfl, by intro w hSw;  clear hSw; go_simp⟩) hHeld4 ?_
            try simp only [Act.put, List.setIfInBounds_toArray, List.set_cons_zero, List.set_cons_succ]
            refine wpAnyH_take (i := 2) (oi := { dst := some 41, op := Op.fieldAddr 140 (Operand.tmp 40) 1, type := 0, pos := "work.go:107", after := #[{ on := 1, ground := Ground.data }], guard := none }) (v := .pointer (some ⟨p, 5, none⟩)) rfl (by kernel_rfl) (by kernel_rfl) (by kernel_rfl) (fun _ _ _ h => h)
              (Or.inl ⟨by rfl, by intro w hSw;  clear hSw; go_simp⟩) hHeld4 ?_
            try simp only [Act.put, List.setIfInBounds_toArray, List.set_cons_zero, List.set_cons_succ]
            refine wpAnyH_take (i := 3) (oi := { dst := some 42, op := Op.load 3 (Operand.tmp 41), type := 3, pos := "work.go:107", after := #[{ on := 2, ground := Ground.data }], guard := none }) (v := .int .i64 (A : Int)) rfl (by kernel_rfl) (by kernel_rfl) (by kernel_rfl) (fun _ _ _ h => h)
              (Or.inl ⟨by rfl, by intro w hSw; have hq := Has.cellAt hSw.2.2 (i := 5) rfl; clear hSw; go_simp⟩) hHeld4 ?_
            try simp only [Act.put, List.setIfInBounds_toArray, List.set_cons_zero, List.set_cons_succ]
            refine wpAnyH_take (i := 4) (oi := { dst := some 43, op := Op.binOp BinOp.gtr 3 (Operand.tmp 42) (Operand.const (Value.int IntKind.i64 4096)) 3, type := 4, pos := "work.go:107", after := #[{ on := 3, ground := Ground.data }], guard := none }) (v := .bool false) rfl (by kernel_rfl) (by kernel_rfl) (by kernel_rfl) (fun _ _ _ h => h)
              (Or.inl ⟨by rfl, by intro w hSw;  clear hSw; go_simp⟩) hHeld4 ?_
            try simp only [Act.put, List.setIfInBounds_toArray, List.set_cons_zero, List.set_cons_succ]
            refine wpAnyH_take (i := 5) (oi := { dst := some 44, op := Op.move (Operand.tmp 43), type := 4, pos := "work.go:107", after := #[{ on := 4, ground := Ground.data }], guard := none }) (v := .bool false) rfl (by kernel_rfl) (by kernel_rfl) (by kernel_rfl) (fun _ _ _ h => h)
              (Or.inl ⟨by rfl, by intro w hSw;  clear hSw; go_simp⟩) hHeld4 ?_
            try simp only [Act.put, List.setIfInBounds_toArray, List.set_cons_zero, List.set_cons_succ]
            refine wpAnyH_take (i := 6) (oi := { dst := some 45, op := Op.move (Operand.tmp 0), type := 136, pos := "work.go:107", after := #[{ on := 5, ground := Ground.guard }], guard := some (5, false) }) (v := .pointer (some ⟨p, 0, none⟩)) rfl (by kernel_rfl) (by kernel_rfl) (by kernel_rfl) (fun _ _ _ h => h)
              (Or.inl ⟨by rfl, by intro w hSw;  clear hSw; go_simp⟩) hHeld4 ?_
            try simp only [Act.put, List.setIfInBounds_toArray, List.set_cons_zero, List.set_cons_succ]
            refine wpAnyH_take (i := 7) (oi := { dst := some 46, op := Op.nilCheck (Operand.tmp 45), type := 0, pos := "work.go:107", after := #[{ on := 6, ground := Ground.data }, { on := 5, ground := Ground.guard }], guard := some (5, false) }) (v := .pointer (some ⟨p, 0, none⟩)) rfl (by kernel_rfl) (by kernel_rfl) (by kernel_rfl) (fun _ _ _ h => h)
              (Or.inl ⟨by rfl, by intro w hSw;  clear hSw; go_simp⟩) hHeld4 ?_
            try simp only [Act.put, List.setIfInBounds_toArray, List.set_cons_zero, List.set_cons_succ]
            refine wpAnyH_take (i := 8) (oi := { dst := some 47, op := Op.fieldAddr 140 (Operand.tmp 46) 2, type := 0, pos := "work.go:107", after := #[{ on := 7, ground := Ground.data }, { on := 5, ground := Ground.guard }], guard := some (5, false) }) (v := .pointer (some ⟨p, 6, none⟩)) rfl (by kernel_rfl) (by kernel_rfl) (by kernel_rfl) (fun _ _ _ h => h)
              (Or.inl ⟨by rfl, by intro w hSw;  clear hSw; go_simp⟩) hHeld4 ?_
            try simp only [Act.put, List.setIfInBounds_toArray, List.set_cons_zero, List.set_cons_succ]
            refine wpAnyH_take (i := 9) (oi := { dst := some 48, op := Op.load 3 (Operand.tmp 47), type := 3, pos := "work.go:107", after := #[{ on := 8, ground := Ground.data }, { on := 5, ground := Ground.guard }], guard := some (5, false) }) (v := .int .i64 (C : Int)) rfl (by kernel_rfl) (by kernel_rfl) (by kernel_rfl) (fun _ _ _ h => h)
              (Or.inl ⟨by rfl, by intro w hSw; have hq := Has.cellAt hSw.2.2 (i := 6) rfl; clear hSw; go_simp⟩) hHeld4 ?_
            try simp only [Act.put, List.setIfInBounds_toArray, List.set_cons_zero, List.set_cons_succ]
            refine wpAnyH_take (i := 10) (oi := { dst := some 49, op := Op.binOp BinOp.gtr 3 (Operand.tmp 48) (Operand.const (Value.int IntKind.i64 65536)) 3, type := 4, pos := "work.go:107", after := #[{ on := 9, ground := Ground.data }, { on := 5, ground := Ground.guard }], guard := some (5, false) }) (v := .bool false) rfl (by kernel_rfl) (by kernel_rfl) (by kernel_rfl) (fun _ _ _ h => h)
              (Or.inl ⟨by rfl, by intro w hSw;  clear hSw; go_simp⟩) hHeld4 ?_
            try simp only [Act.put, List.setIfInBounds_toArray, List.set_cons_zero, List.set_cons_succ]
            refine wpAnyH_take (i := 11) (oi := { dst := some 50, op := Op.pick (Operand.tmp 44) (Operand.const (Value.bool true)) (Operand.tmp 49), type := 4, pos := "work.go:107", after := #[{ on := 5, ground := Ground.data }, { on := 10, ground := Ground.data }], guard := none }) (v := .bool false) rfl (by kernel_rfl) (by kernel_rfl) (by kernel_rfl) (fun _ _ _ h => h)
              (Or.inl ⟨by rfl, by intro w hSw;  clear hSw; go_simp⟩) hHeld4 ?_
            try simp only [Act.put, List.setIfInBounds_toArray, List.set_cons_zero, List.set_cons_succ]
            refine wpAnyH_take (i := 12) (oi := { dst := some 51, op := Op.move (Operand.tmp 50), type := 4, pos := "work.go:107", after := #[{ on := 11, ground := Ground.data }, { on := 5, ground := Ground.chain }], guard := none }) (v := .bool false) rfl (by kernel_rfl) (by kernel_rfl) (by kernel_rfl) (fun _ _ _ h => h)
              (Or.inl ⟨by rfl, by intro w hSw;  clear hSw; go_simp⟩) hHeld4 ?_
            try simp only [Act.put, List.setIfInBounds_toArray, List.set_cons_zero, List.set_cons_succ]
            refine wpAnyH_take (i := 13) (oi := { dst := some 52, op := Op.fieldAddr 180 (Operand.tmp 4) 3, type := 0, pos := "work.go:107", after := #[{ on := 12, ground := Ground.guard }], guard := some (12, false) }) (v := .pointer (some ⟨w.heap.size, 3, none⟩)) rfl (by kernel_rfl) (by kernel_rfl) (by kernel_rfl) (fun _ _ _ h => h)
              (Or.inl ⟨by rfl, by intro w hSw;  clear hSw; go_simp⟩) hHeld4 ?_
            try simp only [Act.put, List.setIfInBounds_toArray, List.set_cons_zero, List.set_cons_succ]
            refine wpAnyH_take (i := 14) (oi := { dst := some 53, op := Op.load 3 (Operand.tmp 52), type := 3, pos := "work.go:107", after := #[{ on := 13, ground := Ground.data }, { on := 12, ground := Ground.guard }], guard := some (12, false) }) (v := .int .i64 (dep : Int)) rfl (by kernel_rfl) (by kernel_rfl) (by kernel_rfl) (fun _ _ _ h => h)
              (Or.inl ⟨by rfl, by intro w hSw; have hq := Has.cellAt hSw.1 (i := 3) rfl; clear hSw; go_simp⟩) hHeld4 ?_
            try simp only [Act.put, List.setIfInBounds_toArray, List.set_cons_zero, List.set_cons_succ]
            refine wpAnyH_take (i := 15) (oi := { dst := some 54, op := Op.load 37 (Operand.tmp 5), type := 37, pos := "work.go:107", after := #[{ on := 12, ground := Ground.guard }], guard := some (12, false) }) rfl (by kernel_rfl) (by kernel_rfl) (by kernel_rfl) (fun _ _ _ h => h)
              (yieldsIf_load_mid (by rfl) 37 (.tmp 5) rfl (w.heap.size + 1) (0) rfl ct _ (fun _ h => has_range h.2.1) Tryz.underlying37 rfl HI5.out) hHeld4 ?_
            try simp only [Act.put, List.setIfInBounds_toArray, List.set_cons_zero, List.set_cons_succ]
            refine wpAnyH_ready (rs := [16]) (by kernel_rfl) (by simp) ?_
            refine AllReadyH.cons (o := { dst := some 55, op := Op.call { callee := Callee.value (Operand.func 143), args := #[Operand.tmp 54], argTypes := #[37] }, type := 3, pos := "work.go:107", after := #[{ on := 15, ground := Ground.data }, { on := 12, ground := Ground.chain }, { on := 12, ground := Ground.guard }], guard := some (12, false) }) rfl (fun K hK => ?_) AllReadyH.nil
            go_simp
            refine (height_any lv ct tt w8.drew (HTT.out w8.drew F8.out.drew) HNN.out).mono ?_
            rintro e w9 ⟨rfl, b9⟩
            have F9 : Hid (Fr (p :: db :: (blk vn ++ blk vk)) w w9) := Lib.hid ((F8.out.drew).trans (Fr.of_below (S := []) b9) (fun g hg => by simp at hg))
            have L9 : Hid (Below w8.heap.size w8 w9) := Lib.hid ((Below.refl w8.heap.size w8).drew.trans b9)
            clear b9
            go_wp2_with fail
            refine hK.out _ _ (⟨has_fr (S := []) G8.out (Fr.of_below L9.out) (by simp), has_fr (S := []) T8.out (Fr.of_below L9.out) (by simp), has_fr (S := []) P8.out (Fr.of_below L9.out) (by simp)⟩) (fun hHw1 => ?_)
            clear hK K hHeld4
            try simp only [Act.put, List.setIfInBounds_toArray, List.set_cons_zero, List.set_cons_succ]
            refine wpAnyH_take (i := 17) (oi := { dst := some 56, op := Op.binOp BinOp.add 3 (Operand.tmp 53) (Operand.tmp 55) 3, type := 3, pos := "work.go:107", after := #[{ on := 14, ground := Ground.data }, { on := 16, ground := Ground.data }, { on := 12, ground := Ground.guard }], guard := some (12, false) }) (v := .int .i64 ((dep : Int) + (heightT tt : Int))) rfl (by kernel_rfl) (by kernel_rfl) (by kernel_rfl) (fun _ _ _ h => h)
              (Or.inl ⟨by rfl, by intro w hSw;  clear hSw; go_simp <;> exact z5⟩) hHw1 ?_
            try simp only [Act.put, List.setIfInBounds_toArray, List.set_cons_zero, List.set_cons_succ]
            refine wpAnyH_take (i := 18) (oi := { dst := some 57, op := Op.binOp BinOp.gtr 3 (Operand.tmp 56) (Operand.const (Value.int IntKind.i64 16)) 3, type := 4, pos := "work.go:107", after := #[{ on := 17, ground := Ground.data }, { on := 12, ground := Ground.guard }], guard := some (12, false) }) (v := .bool false) rfl (by kernel_rfl) (by kernel_rfl) (by kernel_rfl) (fun _ _ _ h => h)
              (Or.inl ⟨by rfl, by intro w hSw;  clear hSw; go_simp⟩) hHw1 ?_
            try simp only [Act.put, List.setIfInBounds_toArray, List.set_cons_zero, List.set_cons_succ]
            refine wpAnyH_take (i := 19) (oi := { dst := some 58, op := Op.pick (Operand.tmp 51) (Operand.const (Value.bool true)) (Operand.tmp 57), type := 4, pos := "work.go:107", after := #[{ on := 12, ground := Ground.data }, { on := 18, ground := Ground.data }], guard := none }) (v := .bool false) rfl (by kernel_rfl) (by kernel_rfl) (by kernel_rfl) (fun _ _ _ h => h)
              (Or.inl ⟨by rfl, by intro w hSw;  clear hSw; go_simp⟩) hHw1 ?_
            try simp only [Act.put, List.setIfInBounds_toArray, List.set_cons_zero, List.set_cons_succ]
            refine wpAnyH_done (by kernel_rfl) ?_ _
            clear hHw1
            go_wp2_with fail
            go_ret
            exact RES.out _ _ (by first | (rw [if_pos (by omega)]; rfl) | (rw [if_neg (by omega)]; rfl)) (F9.out) (L9.out)

end Go.Proofs.YtlccdenafnekjaaGreatDoor
