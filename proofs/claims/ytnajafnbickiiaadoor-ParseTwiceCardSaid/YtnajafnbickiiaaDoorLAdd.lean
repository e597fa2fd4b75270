/-
  The contract of the lexer's add: the next n bytes are a token. Conditions: there are as many; bounds on the numbers.
-/
import Derived.Test.YtnajafnbickiiaaDoorLSmall
import Derived.Deep.MidRow
import Derived.Deep.RegionHeld
import Derived.Deep.Cut
import Derived.BigFrame
namespace Go.Proofs.YtnajafnbickiiaaDoor
open Go.RowKit
set_option linter.unusedVariables false

theorem ext_eq (s : ByteArray) (a n : Nat) (h : a + n ≤ s.size) : s.extract a (a + n) = ⟨((s.data.toList.drop a).take n).toArray⟩ := by
  apply bytes_ext
  rw [ByteArray.data_extract, Array.toList_extract, List.extract_eq_take_drop, show a + n - a = n by omega]

set_option maxRecDepth 100000 in
set_option maxHeartbeats 8000000 in
theorem add_any (B lb : Nat) (w0 : World) (s : ByteArray) (a : Nat) (ts : List Tk) (q : Bool) (p : List Nat) (w : World) (hx : Lx B lb w0 s a ts q p w) (k n : Nat) (han : a + n ≤ s.size) (hs : s.size ≤ 8000) (hts : ts.length ≤ 9000) :
    Calls Tryd.prog 12 #[.pointer (some ⟨lb, 0, none⟩), .int .u8 (k : Int), .int .i64 (n : Int)] w fun e w' => e = .returned (.tuple #[]) ∧ Lx B lb w0 s (a + n) (ts ++ [⟨k, (s.data.toList.drop a).take n, a⟩]) q p w' := by
  obtain ⟨i0, hi, hz0, hz1, hz2⟩ := info_parts info_tok
  have HI := Lib.hid hi
  have HZ0 := Lib.hid hz0
  have HZ1 := Lib.hid hz1
  have HZ2 := Lib.hid hz2
  obtain ⟨vl, vp, h1, h2, h3, h4, h5⟩ := hx
  obtain ⟨lv, ln, lc, rfl⟩ := row_form h2
  have TK : Hid ([Value.int .u8 (k : Int), .string (s.extract a (a + n)), .int .i64 (a : Int)] = tkC ⟨k, (s.data.toList.drop a).take n, a⟩) := Lib.hid (by rw [ext_eq s a n han]; rfl)
  have HW19 : Hid (IntKind.i64.wrap ((a : Int) + (n : Int)) = (a : Int) + (n : Int)) := Lib.hid (by simp [IntKind.wrap, IntKind.bits, IntKind.signed]; omega)
  have HT20 : Hid (((a : Int) + (n : Int)).toNat = a + n) := Lib.hid (by omega)
  have hi1 : (a : Int) + (n : Int) ≤ (s.size : Int) := by omega
  have hi2 : (a : Int) ≤ (a : Int) + (n : Int) := by omega
  have hi3 : (0 : Int) ≤ (a : Int) + (n : Int) := by omega
  have H1 := Lib.hid h1
  have H2 := Lib.hid h2
  have H3 := Lib.hid h3
  have H4 := Lib.hid h4
  have HB := Lib.hid h5
  clear hi hz0 hz1 hz2 h1 h2 h3 h4 h5
  go_enter Tryd.func12, Tryd.ntmps12
  go_upto_region 0 with fail
  refine wp_region_held_drew (S := fun W => ∃ u, Has W lb [.string s, .int .i64 (a : Int), u, .bool q, vp] 41) (by kernel_rfl) ⟨_, H1.out.drew⟩ (fun hHeld => ?_)
  refine wpAnyH_take (i := 0) (oi := { dst := some 6, op := Op.move (Operand.tmp 0), type := 52, pos := "lex.go:54", after := #[], guard := none }) (v := .pointer (some ⟨lb, 0, none⟩)) rfl (by kernel_rfl) (by kernel_rfl) (by kernel_rfl) (fun _ _ _ h => h)
    (Or.inl ⟨by rfl, by intro w hSw; clear hSw; go_simp⟩) hHeld ?_
  try simp only [Act.put, List.setIfInBounds_toArray, List.set_cons_zero, List.set_cons_succ]
  refine wpAnyH_take (i := 1) (oi := { dst := some 7, op := Op.move (Operand.tmp 0), type := 52, pos := "lex.go:54", after := #[], guard := none }) (v := .pointer (some ⟨lb, 0, none⟩)) rfl (by kernel_rfl) (by kernel_rfl) (by kernel_rfl) (fun _ _ _ h => h)
    (Or.inl ⟨by rfl, by intro w hSw; clear hSw; go_simp⟩) hHeld ?_
  try simp only [Act.put, List.setIfInBounds_toArray, List.set_cons_zero, List.set_cons_succ]
  refine wpAnyH_take (i := 2) (oi := { dst := some 8, op := Op.nilCheck (Operand.tmp 7), type := 0, pos := "lex.go:54", after := #[{ on := 1, ground := Ground.data }], guard := none }) (v := .pointer (some ⟨lb, 0, none⟩)) rfl (by kernel_rfl) (by kernel_rfl) (by kernel_rfl) (fun _ _ _ h => h)
    (Or.inl ⟨by rfl, by intro w hSw; clear hSw; go_simp⟩) hHeld ?_
  try simp only [Act.put, List.setIfInBounds_toArray, List.set_cons_zero, List.set_cons_succ]
  refine wpAnyH_take (i := 3) (oi := { dst := some 9, op := Op.fieldAddr 41 (Operand.tmp 8) 2, type := 0, pos := "lex.go:54", after := #[{ on := 2, ground := Ground.data }], guard := none }) (v := .pointer (some ⟨lb, 2, none⟩)) rfl (by kernel_rfl) (by kernel_rfl) (by kernel_rfl) (fun _ _ _ h => h)
    (Or.inl ⟨by rfl, by intro w hSw; clear hSw; go_simp⟩) hHeld ?_
  try simp only [Act.put, List.setIfInBounds_toArray, List.set_cons_zero, List.set_cons_succ]
  refine wpAnyH_take (i := 5) (oi := { dst := some 11, op := Op.move (Operand.tmp 1), type := 5, pos := "lex.go:54", after := #[], guard := none }) (v := .int .u8 (k : Int)) rfl (by kernel_rfl) (by kernel_rfl) (by kernel_rfl) (fun _ _ _ h => h)
    (Or.inl ⟨by rfl, by intro w hSw; clear hSw; go_simp⟩) hHeld ?_
  try simp only [Act.put, List.setIfInBounds_toArray, List.set_cons_zero, List.set_cons_succ]
  refine wpAnyH_take (i := 6) (oi := { dst := some 12, op := Op.move (Operand.tmp 0), type := 52, pos := "lex.go:54", after := #[], guard := none }) (v := .pointer (some ⟨lb, 0, none⟩)) rfl (by kernel_rfl) (by kernel_rfl) (by kernel_rfl) (fun _ _ _ h => h)
    (Or.inl ⟨by rfl, by intro w hSw; clear hSw; go_simp⟩) hHeld ?_
  try simp only [Act.put, List.setIfInBounds_toArray, List.set_cons_zero, List.set_cons_succ]
  refine wpAnyH_take (i := 7) (oi := { dst := some 13, op := Op.nilCheck (Operand.tmp 12), type := 0, pos := "lex.go:54", after := #[{ on := 6, ground := Ground.data }], guard := none }) (v := .pointer (some ⟨lb, 0, none⟩)) rfl (by kernel_rfl) (by kernel_rfl) (by kernel_rfl) (fun _ _ _ h => h)
    (Or.inl ⟨by rfl, by intro w hSw; clear hSw; go_simp⟩) hHeld ?_
  try simp only [Act.put, List.setIfInBounds_toArray, List.set_cons_zero, List.set_cons_succ]
  refine wpAnyH_take (i := 8) (oi := { dst := some 14, op := Op.fieldAddr 41 (Operand.tmp 13) 0, type := 0, pos := "lex.go:54", after := #[{ on := 7, ground := Ground.data }], guard := none }) (v := .pointer (some ⟨lb, 0, none⟩)) rfl (by kernel_rfl) (by kernel_rfl) (by kernel_rfl) (fun _ _ _ h => h)
    (Or.inl ⟨by rfl, by intro w hSw; clear hSw; go_simp⟩) hHeld ?_
  try simp only [Act.put, List.setIfInBounds_toArray, List.set_cons_zero, List.set_cons_succ]
  refine wpAnyH_take (i := 9) (oi := { dst := some 15, op := Op.load 9 (Operand.tmp 14), type := 9, pos := "lex.go:54", after := #[{ on := 8, ground := Ground.data }], guard := none }) (v := .string s) rfl (by kernel_rfl) (by kernel_rfl) (by kernel_rfl) (fun _ _ _ h => h)
    (Or.inl ⟨by rfl, by intro w hSw; obtain ⟨u, hu⟩ := hSw; have hcl := hu.cellAt (i := 0) rfl; clear hu; go_simp⟩) hHeld ?_
  try simp only [Act.put, List.setIfInBounds_toArray, List.set_cons_zero, List.set_cons_succ]
  refine wpAnyH_take (i := 10) (oi := { dst := some 16, op := Op.move (Operand.tmp 0), type := 52, pos := "lex.go:54", after := #[], guard := none }) (v := .pointer (some ⟨lb, 0, none⟩)) rfl (by kernel_rfl) (by kernel_rfl) (by kernel_rfl) (fun _ _ _ h => h)
    (Or.inl ⟨by rfl, by intro w hSw; clear hSw; go_simp⟩) hHeld ?_
  try simp only [Act.put, List.setIfInBounds_toArray, List.set_cons_zero, List.set_cons_succ]
  refine wpAnyH_take (i := 11) (oi := { dst := some 17, op := Op.nilCheck (Operand.tmp 16), type := 0, pos := "lex.go:54", after := #[{ on := 10, ground := Ground.data }], guard := none }) (v := .pointer (some ⟨lb, 0, none⟩)) rfl (by kernel_rfl) (by kernel_rfl) (by kernel_rfl) (fun _ _ _ h => h)
    (Or.inl ⟨by rfl, by intro w hSw; clear hSw; go_simp⟩) hHeld ?_
  try simp only [Act.put, List.setIfInBounds_toArray, List.set_cons_zero, List.set_cons_succ]
  refine wpAnyH_take (i := 12) (oi := { dst := some 18, op := Op.fieldAddr 41 (Operand.tmp 17) 1, type := 0, pos := "lex.go:54", after := #[{ on := 11, ground := Ground.data }], guard := none }) (v := .pointer (some ⟨lb, 1, none⟩)) rfl (by kernel_rfl) (by kernel_rfl) (by kernel_rfl) (fun _ _ _ h => h)
    (Or.inl ⟨by rfl, by intro w hSw; clear hSw; go_simp⟩) hHeld ?_
  try simp only [Act.put, List.setIfInBounds_toArray, List.set_cons_zero, List.set_cons_succ]
  refine wpAnyH_take (i := 13) (oi := { dst := some 19, op := Op.load 3 (Operand.tmp 18), type := 3, pos := "lex.go:54", after := #[{ on := 12, ground := Ground.data }], guard := none }) (v := .int .i64 (a : Int)) rfl (by kernel_rfl) (by kernel_rfl) (by kernel_rfl) (fun _ _ _ h => h)
    (Or.inl ⟨by rfl, by intro w hSw; obtain ⟨u, hu⟩ := hSw; have hcl := hu.cellAt (i := 1) rfl; clear hu; go_simp⟩) hHeld ?_
  try simp only [Act.put, List.setIfInBounds_toArray, List.set_cons_zero, List.set_cons_succ]
  refine wpAnyH_take (i := 14) (oi := { dst := some 20, op := Op.move (Operand.tmp 0), type := 52, pos := "lex.go:54", after := #[], guard := none }) (v := .pointer (some ⟨lb, 0, none⟩)) rfl (by kernel_rfl) (by kernel_rfl) (by kernel_rfl) (fun _ _ _ h => h)
    (Or.inl ⟨by rfl, by intro w hSw; clear hSw; go_simp⟩) hHeld ?_
  try simp only [Act.put, List.setIfInBounds_toArray, List.set_cons_zero, List.set_cons_succ]
  refine wpAnyH_take (i := 15) (oi := { dst := some 21, op := Op.nilCheck (Operand.tmp 20), type := 0, pos := "lex.go:54", after := #[{ on := 14, ground := Ground.data }], guard := none }) (v := .pointer (some ⟨lb, 0, none⟩)) rfl (by kernel_rfl) (by kernel_rfl) (by kernel_rfl) (fun _ _ _ h => h)
    (Or.inl ⟨by rfl, by intro w hSw; clear hSw; go_simp⟩) hHeld ?_
  try simp only [Act.put, List.setIfInBounds_toArray, List.set_cons_zero, List.set_cons_succ]
  refine wpAnyH_take (i := 16) (oi := { dst := some 22, op := Op.fieldAddr 41 (Operand.tmp 21) 1, type := 0, pos := "lex.go:54", after := #[{ on := 15, ground := Ground.data }], guard := none }) (v := .pointer (some ⟨lb, 1, none⟩)) rfl (by kernel_rfl) (by kernel_rfl) (by kernel_rfl) (fun _ _ _ h => h)
    (Or.inl ⟨by rfl, by intro w hSw; clear hSw; go_simp⟩) hHeld ?_
  try simp only [Act.put, List.setIfInBounds_toArray, List.set_cons_zero, List.set_cons_succ]
  refine wpAnyH_take (i := 17) (oi := { dst := some 23, op := Op.load 3 (Operand.tmp 22), type := 3, pos := "lex.go:54", after := #[{ on := 16, ground := Ground.data }], guard := none }) (v := .int .i64 (a : Int)) rfl (by kernel_rfl) (by kernel_rfl) (by kernel_rfl) (fun _ _ _ h => h)
    (Or.inl ⟨by rfl, by intro w hSw; obtain ⟨u, hu⟩ := hSw; have hcl := hu.cellAt (i := 1) rfl; clear hu; go_simp⟩) hHeld ?_
  try simp only [Act.put, List.setIfInBounds_toArray, List.set_cons_zero, List.set_cons_succ]
  refine wpAnyH_take (i := 18) (oi := { dst := some 24, op := Op.move (Operand.tmp 2), type := 3, pos := "lex.go:54", after := #[], guard := none }) (v := .int .i64 (n : Int)) rfl (by kernel_rfl) (by kernel_rfl) (by kernel_rfl) (fun _ _ _ h => h)
    (Or.inl ⟨by rfl, by intro w hSw; clear hSw; go_simp⟩) hHeld ?_
  try simp only [Act.put, List.setIfInBounds_toArray, List.set_cons_zero, List.set_cons_succ]
  refine wpAnyH_take (i := 19) (oi := { dst := some 25, op := Op.binOp BinOp.add 3 (Operand.tmp 23) (Operand.tmp 24) 3, type := 3, pos := "lex.go:54", after := #[{ on := 17, ground := Ground.data }, { on := 18, ground := Ground.data }], guard := none }) (v := .int .i64 ((a : Int) + (n : Int))) rfl (by kernel_rfl) (by kernel_rfl) (by kernel_rfl) (fun _ _ _ h => h)
    (Or.inl ⟨by rfl, by intro w hSw; clear hSw; go_simp; exact HW19.out⟩) hHeld ?_
  try simp only [Act.put, List.setIfInBounds_toArray, List.set_cons_zero, List.set_cons_succ]
  refine wpAnyH_take (i := 20) (oi := { dst := some 26, op := Op.slice 9 (Operand.tmp 15) (some (Operand.tmp 19)) (some (Operand.tmp 25)) none, type := 9, pos := "lex.go:54", after := #[{ on := 9, ground := Ground.data }, { on := 13, ground := Ground.data }, { on := 19, ground := Ground.data }], guard := none }) (v := .string (s.extract a (a + n))) rfl (by kernel_rfl) (by kernel_rfl) (by kernel_rfl) (fun _ _ _ h => h)
    (Or.inl ⟨by rfl, by intro w hSw; clear hSw; go_simp; rw [HT20.out]⟩) hHeld ?_
  try simp only [Act.put, List.setIfInBounds_toArray, List.set_cons_zero, List.set_cons_succ]
  refine wpAnyH_take (i := 21) (oi := { dst := some 27, op := Op.move (Operand.tmp 0), type := 52, pos := "lex.go:54", after := #[], guard := none }) (v := .pointer (some ⟨lb, 0, none⟩)) rfl (by kernel_rfl) (by kernel_rfl) (by kernel_rfl) (fun _ _ _ h => h)
    (Or.inl ⟨by rfl, by intro w hSw; clear hSw; go_simp⟩) hHeld ?_
  try simp only [Act.put, List.setIfInBounds_toArray, List.set_cons_zero, List.set_cons_succ]
  refine wpAnyH_take (i := 22) (oi := { dst := some 28, op := Op.nilCheck (Operand.tmp 27), type := 0, pos := "lex.go:54", after := #[{ on := 21, ground := Ground.data }], guard := none }) (v := .pointer (some ⟨lb, 0, none⟩)) rfl (by kernel_rfl) (by kernel_rfl) (by kernel_rfl) (fun _ _ _ h => h)
    (Or.inl ⟨by rfl, by intro w hSw; clear hSw; go_simp⟩) hHeld ?_
  try simp only [Act.put, List.setIfInBounds_toArray, List.set_cons_zero, List.set_cons_succ]
  refine wpAnyH_take (i := 23) (oi := { dst := some 29, op := Op.fieldAddr 41 (Operand.tmp 28) 1, type := 0, pos := "lex.go:54", after := #[{ on := 22, ground := Ground.data }], guard := none }) (v := .pointer (some ⟨lb, 1, none⟩)) rfl (by kernel_rfl) (by kernel_rfl) (by kernel_rfl) (fun _ _ _ h => h)
    (Or.inl ⟨by rfl, by intro w hSw; clear hSw; go_simp⟩) hHeld ?_
  try simp only [Act.put, List.setIfInBounds_toArray, List.set_cons_zero, List.set_cons_succ]
  refine wpAnyH_take (i := 24) (oi := { dst := some 30, op := Op.load 3 (Operand.tmp 29), type := 3, pos := "lex.go:54", after := #[{ on := 23, ground := Ground.data }], guard := none }) (v := .int .i64 (a : Int)) rfl (by kernel_rfl) (by kernel_rfl) (by kernel_rfl) (fun _ _ _ h => h)
    (Or.inl ⟨by rfl, by intro w hSw; obtain ⟨u, hu⟩ := hSw; have hcl := hu.cellAt (i := 1) rfl; clear hu; go_simp⟩) hHeld ?_
  try simp only [Act.put, List.setIfInBounds_toArray, List.set_cons_zero, List.set_cons_succ]
  refine wpAnyH_take (i := 25) (oi := { dst := some 31, op := Op.build 50 #[(0, Operand.tmp 11), (1, Operand.tmp 26), (2, Operand.tmp 30)], type := 50, pos := "lex.go:54", after := #[{ on := 5, ground := Ground.data }, { on := 20, ground := Ground.data }, { on := 24, ground := Ground.data }], guard := none }) (v := .agg #[.int .u8 (k : Int), .string (s.extract a (a + n)), .int .i64 (a : Int)]) rfl (by kernel_rfl) (by kernel_rfl) (by kernel_rfl) (fun _ _ _ h => h)
    (Or.inl ⟨by rfl, by intro w hSw; clear hSw; go_simp⟩) hHeld ?_
  try simp only [Act.put, List.setIfInBounds_toArray, List.set_cons_zero, List.set_cons_succ]
  refine wpAnyH_ready (rs := [4, 26]) (by kernel_rfl) (by simp) ?_
  refine AllReadyH.cons (o := { dst := some 10, op := Op.load 34 (Operand.tmp 9), type := 34, pos := "lex.go:54", after := #[{ on := 3, ground := Ground.data }], guard := none }) rfl (fun K hK => ?_) (AllReadyH.cons (o := { dst := some 32, op := Op.buildSlice 34 1 #[(0, Operand.tmp 31)], type := 34, pos := "lex.go:54", after := #[{ on := 25, ground := Ground.data }], guard := none }) rfl (fun K hK => ?_) AllReadyH.nil)
  · skip
    have hcl := (H1.out.drew).cellAt (i := 2) rfl
    go_simp
    clear hcl
    refine hK.out _ _ ⟨_, H1.out.drew⟩ (fun hHeld1 => ?_)
    clear hK K hHeld
    try simp only [Act.put, List.setIfInBounds_toArray, List.set_cons_zero, List.set_cons_succ]
    refine wpAnyH_ready (rs := [26]) (by kernel_rfl) (by simp) ?_
    refine AllReadyH.cons (o := { dst := some 32, op := Op.buildSlice 34 1 #[(0, Operand.tmp 31)], type := 34, pos := "lex.go:54", after := #[{ on := 25, ground := Ground.data }], guard := none }) rfl (fun K hK => ?_) AllReadyH.nil
    go_simp
    obtain ⟨w3, hw3⟩ : ∃ w3, w3 = (w.alloc (.cells #[.int .u8 (k : Int), .string (s.extract a (a + n)), .int .i64 (a : Int)] 50)).drew := ⟨_, rfl⟩
    have p3 : Has w3 w.heap.size [.int .u8 (k : Int), .string (s.extract a (a + n)), .int .i64 (a : Int)] 50 := by rw [hw3]; exact (Has.new w _ _).drew
    have x3 : Has w3 lb [.string s, .int .i64 (a : Int), .slice lv ln lc, .bool q, vp] 41 := by rw [hw3]; exact (H1.out.alloc _).drew
    have o3 : w3.ownsRow B 50 3 (.slice lv ln lc) ts.length (tksC ts) := by rw [hw3]; exact (H2.out.alloc _).drew
    have q3 : w3.ownsRow B 3 1 vp p.length (p.reverse.map iv) := by rw [hw3]; exact (H3.out.alloc _).drew
    have b3 : Below B w0 w3 := by rw [hw3]; exact (H4.out.alloc (by have := H1.out.lt; have := HB.out; omega) _).drew
    have s3 : w3.heap.size = w.heap.size + 1 := by rw [hw3]; simp
    rw [← hw3]
    clear hw3
    have P3 := Lib.hid p3
    have X3 := Lib.hid x3
    have O3 := Lib.hid o3
    have Q3 := Lib.hid q3
    have B3 := Lib.hid b3
    clear p3 x3 o3 q3 b3
    refine hK.out _ _ ⟨_, X3.out⟩ (fun hHeld2 => ?_)
    clear hK K hHeld1
    try simp only [Act.put, List.setIfInBounds_toArray, List.set_cons_zero, List.set_cons_succ]
    refine wpAnyH_ready (rs := [27]) (by kernel_rfl) (by simp) ?_
    refine AllReadyH.cons (o := { dst := some 33, op := Op.call { callee := Callee.builtin Builtin.append, args := #[Operand.tmp 10, Operand.tmp 32], argTypes := #[34, 34] }, type := 34, pos := "lex.go:54", after := #[{ on := 4, ground := Ground.data }, { on := 26, ground := Ground.data }], guard := none }) rfl (fun K hK => ?_) AllReadyH.nil
    rw [if_pos (by rfl)]
    refine wp_append_lies _ (.tmp 10) (.tmp 32) 34 rfl B 50 i0 (.agg #[.int .u8 0, .string ByteArray.empty, .int .i64 0]) 3 32 Tryd.underlying34 HI.out HZ0.out HZ1.out HZ2.out rfl (by omega) (.slice lv ln lc) ts.length (tksC ts) rfl O3.out ⟨w.heap.size, 0, none⟩ 1 1 [.int .u8 (k : Int), .string (s.extract a (a + n)), .int .i64 (a : Int)] rfl rfl (fun j u hj => ?_) (fun u hu => ?_) (by omega) (by unfold maxLen; omega) (by omega) (by have := X3.out.lt; have := HB.out; omega) w3.heap.size rfl (fun ga capa w4 h4o h4g h4b h4s => ?_)
    · rw [Addr.add_lit]; exact P3.out.cellAt (by rw [Nat.zero_add]; exact hj)
    · simp only [List.mem_cons, List.not_mem_nil, or_false] at hu; rcases hu with rfl | rfl | rfl <;> rfl
    have hp := Lx.push (t := ⟨k, (s.data.toList.drop a).take n, a⟩) X3.out O3.out Q3.out B3.out HB.out h4g (by rw [TK.out] at h4o; exact h4o)
    have HP := Lib.hid hp
    clear hp
    have h4 := has_grown X3.out O3.out (by decide) h4g
    obtain ⟨n4, hn4⟩ : ∃ n4, n4 = ts.length + 1 := ⟨_, rfl⟩
    rw [← hn4] at HP ⊢
    have H4' := Lib.hid h4
    clear h4o h4g h4b hn4
    refine hK.out _ _ ⟨_, h4⟩ (fun hHeld3 => ?_)
    clear hK K hHeld2 h4
    try simp only [Act.put, List.setIfInBounds_toArray, List.set_cons_zero, List.set_cons_succ]
    refine wpAnyH_take (i := 28) (oi := { dst := some 34, op := Op.nilCheck (Operand.tmp 6), type := 0, pos := "lex.go:54", after := #[{ on := 0, ground := Ground.data }, { on := 0, ground := Ground.phase }, { on := 1, ground := Ground.phase }, { on := 2, ground := Ground.phase }, { on := 3, ground := Ground.phase }, { on := 4, ground := Ground.phase }, { on := 5, ground := Ground.phase }, { on := 6, ground := Ground.phase }, { on := 7, ground := Ground.phase }, { on := 8, ground := Ground.phase }, { on := 9, ground := Ground.phase }, { on := 10, ground := Ground.phase }, { on := 11, ground := Ground.phase }, { on := 12, ground := Ground.phase }, { on := 13, ground := Ground.phase }, { on := 14, ground := Ground.phase }, { on := 15, ground := Ground.phase }, { on := 16, ground := Ground.phase }, { on := 17, ground := Ground.phase }, { on := 18, ground := Ground.phase }, { on := 19, ground := Ground.phase }, { on := 20, ground := Ground.phase }, { on := 21, ground := Ground.phase }, { on := 22, ground := Ground.phase }, { on := 23, ground := Ground.phase }, { on := 24, ground := Ground.phase }, { on := 25, ground := Ground.phase }, { on := 26, ground := Ground.phase }, { on := 27, ground := Ground.phase }], guard := none }) (v := .pointer (some ⟨lb, 0, none⟩)) rfl (by kernel_rfl) (by kernel_rfl) (by kernel_rfl) (fun _ _ _ h => h)
      (Or.inl ⟨by rfl, by intro w hSw; clear hSw; go_simp⟩) hHeld3 ?_
    try simp only [Act.put, List.setIfInBounds_toArray, List.set_cons_zero, List.set_cons_succ]
    refine wpAnyH_take (i := 29) (oi := { dst := some 35, op := Op.fieldAddr 41 (Operand.tmp 34) 2, type := 0, pos := "lex.go:54", after := #[{ on := 28, ground := Ground.data }, { on := 0, ground := Ground.phase }, { on := 1, ground := Ground.phase }, { on := 2, ground := Ground.phase }, { on := 3, ground := Ground.phase }, { on := 4, ground := Ground.phase }, { on := 5, ground := Ground.phase }, { on := 6, ground := Ground.phase }, { on := 7, ground := Ground.phase }, { on := 8, ground := Ground.phase }, { on := 9, ground := Ground.phase }, { on := 10, ground := Ground.phase }, { on := 11, ground := Ground.phase }, { on := 12, ground := Ground.phase }, { on := 13, ground := Ground.phase }, { on := 14, ground := Ground.phase }, { on := 15, ground := Ground.phase }, { on := 16, ground := Ground.phase }, { on := 17, ground := Ground.phase }, { on := 18, ground := Ground.phase }, { on := 19, ground := Ground.phase }, { on := 20, ground := Ground.phase }, { on := 21, ground := Ground.phase }, { on := 22, ground := Ground.phase }, { on := 23, ground := Ground.phase }, { on := 24, ground := Ground.phase }, { on := 25, ground := Ground.phase }, { on := 26, ground := Ground.phase }, { on := 27, ground := Ground.phase }], guard := none }) (v := .pointer (some ⟨lb, 2, none⟩)) rfl (by kernel_rfl) (by kernel_rfl) (by kernel_rfl) (fun _ _ _ h => h)
      (Or.inl ⟨by rfl, by intro w hSw; clear hSw; go_simp⟩) hHeld3 ?_
    try simp only [Act.put, List.setIfInBounds_toArray, List.set_cons_zero, List.set_cons_succ]
    refine wpAnyH_ready (rs := [30]) (by kernel_rfl) (by simp) ?_
    refine AllReadyH.cons (o := { dst := none, op := Op.store 34 (Operand.tmp 35) (Operand.tmp 33), type := 0, pos := "lex.go:54", after := #[{ on := 29, ground := Ground.data }, { on := 27, ground := Ground.data }, { on := 27, ground := Ground.chain }, { on := 0, ground := Ground.phase }, { on := 1, ground := Ground.phase }, { on := 2, ground := Ground.phase }, { on := 3, ground := Ground.phase }, { on := 4, ground := Ground.phase }, { on := 5, ground := Ground.phase }, { on := 6, ground := Ground.phase }, { on := 7, ground := Ground.phase }, { on := 8, ground := Ground.phase }, { on := 9, ground := Ground.phase }, { on := 10, ground := Ground.phase }, { on := 11, ground := Ground.phase }, { on := 12, ground := Ground.phase }, { on := 13, ground := Ground.phase }, { on := 14, ground := Ground.phase }, { on := 15, ground := Ground.phase }, { on := 16, ground := Ground.phase }, { on := 17, ground := Ground.phase }, { on := 18, ground := Ground.phase }, { on := 19, ground := Ground.phase }, { on := 20, ground := Ground.phase }, { on := 21, ground := Ground.phase }, { on := 22, ground := Ground.phase }, { on := 23, ground := Ground.phase }, { on := 24, ground := Ground.phase }, { on := 25, ground := Ground.phase }, { on := 26, ground := Ground.phase }, { on := 27, ground := Ground.phase }], guard := none }) rfl (fun K hK => ?_) AllReadyH.nil
    have hcell4 := H4'.out.cellAt (i := 2) rfl
    have hfrz4 := H4'.out.frozen 2
    go_simp
    clear hcell4 hfrz4
    refine hK.out _ _ ⟨_, H4'.out.set 2 _⟩ (fun hHeld4 => ?_)
    clear hK K hHeld3
    try simp only [Act.put]
    refine wpAnyH_done (by kernel_rfl) ?_ _
    clear hHeld4
    obtain ⟨w5, hw5⟩ : ∃ w5, w5 = w4.setCell ⟨lb, 2, none⟩ (.slice (some ⟨ga, 0, none⟩) n4 capa) := ⟨_, rfl⟩
    rw [← hw5] at HP ⊢
    obtain ⟨vl5, vp5, g1, _, _, _, _⟩ := HP.out
    have c1 := g1.cellAt (i := 1) rfl
    have f1 := g1.frozen 1
    clear g1 hw5
    go_wp2_with fail
    first | go_end0 | (simp only [Exit.inBlock, Exit.then]; refine bodyPost_ret (results_none rfl _ _ _) rfl ?_) | refine bodyPost_ret (results_none rfl _ _ _) rfl ?_
    exact ⟨rfl, by have := HP.out.setAt (a + n); simpa using this⟩
  · skip
    go_simp
    obtain ⟨w3, hw3⟩ : ∃ w3, w3 = (w.alloc (.cells #[.int .u8 (k : Int), .string (s.extract a (a + n)), .int .i64 (a : Int)] 50)).drew := ⟨_, rfl⟩
    have p3 : Has w3 w.heap.size [.int .u8 (k : Int), .string (s.extract a (a + n)), .int .i64 (a : Int)] 50 := by rw [hw3]; exact (Has.new w _ _).drew
    have x3 : Has w3 lb [.string s, .int .i64 (a : Int), .slice lv ln lc, .bool q, vp] 41 := by rw [hw3]; exact (H1.out.alloc _).drew
    have o3 : w3.ownsRow B 50 3 (.slice lv ln lc) ts.length (tksC ts) := by rw [hw3]; exact (H2.out.alloc _).drew
    have q3 : w3.ownsRow B 3 1 vp p.length (p.reverse.map iv) := by rw [hw3]; exact (H3.out.alloc _).drew
    have b3 : Below B w0 w3 := by rw [hw3]; exact (H4.out.alloc (by have := H1.out.lt; have := HB.out; omega) _).drew
    have s3 : w3.heap.size = w.heap.size + 1 := by rw [hw3]; simp
    rw [← hw3]
    clear hw3
    have P3 := Lib.hid p3
    have X3 := Lib.hid x3
    have O3 := Lib.hid o3
    have Q3 := Lib.hid q3
    have B3 := Lib.hid b3
    clear p3 x3 o3 q3 b3
    refine hK.out _ _ ⟨_, X3.out⟩ (fun hHeld1 => ?_)
    clear hK K hHeld
    try simp only [Act.put, List.setIfInBounds_toArray, List.set_cons_zero, List.set_cons_succ]
    refine wpAnyH_ready (rs := [4]) (by kernel_rfl) (by simp) ?_
    refine AllReadyH.cons (o := { dst := some 10, op := Op.load 34 (Operand.tmp 9), type := 34, pos := "lex.go:54", after := #[{ on := 3, ground := Ground.data }], guard := none }) rfl (fun K hK => ?_) AllReadyH.nil
    have hcl := (X3.out).cellAt (i := 2) rfl
    go_simp
    clear hcl
    refine hK.out _ _ ⟨_, X3.out⟩ (fun hHeld2 => ?_)
    clear hK K hHeld1
    try simp only [Act.put, List.setIfInBounds_toArray, List.set_cons_zero, List.set_cons_succ]
    refine wpAnyH_ready (rs := [27]) (by kernel_rfl) (by simp) ?_
    refine AllReadyH.cons (o := { dst := some 33, op := Op.call { callee := Callee.builtin Builtin.append, args := #[Operand.tmp 10, Operand.tmp 32], argTypes := #[34, 34] }, type := 34, pos := "lex.go:54", after := #[{ on := 4, ground := Ground.data }, { on := 26, ground := Ground.data }], guard := none }) rfl (fun K hK => ?_) AllReadyH.nil
    rw [if_pos (by rfl)]
    refine wp_append_lies _ (.tmp 10) (.tmp 32) 34 rfl B 50 i0 (.agg #[.int .u8 0, .string ByteArray.empty, .int .i64 0]) 3 32 Tryd.underlying34 HI.out HZ0.out HZ1.out HZ2.out rfl (by omega) (.slice lv ln lc) ts.length (tksC ts) rfl O3.out ⟨w.heap.size, 0, none⟩ 1 1 [.int .u8 (k : Int), .string (s.extract a (a + n)), .int .i64 (a : Int)] rfl rfl (fun j u hj => ?_) (fun u hu => ?_) (by omega) (by unfold maxLen; omega) (by omega) (by have := X3.out.lt; have := HB.out; omega) w3.heap.size rfl (fun ga capa w4 h4o h4g h4b h4s => ?_)
    · rw [Addr.add_lit]; exact P3.out.cellAt (by rw [Nat.zero_add]; exact hj)
    · simp only [List.mem_cons, List.not_mem_nil, or_false] at hu; rcases hu with rfl | rfl | rfl <;> rfl
    have hp := Lx.push (t := ⟨k, (s.data.toList.drop a).take n, a⟩) X3.out O3.out Q3.out B3.out HB.out h4g (by rw [TK.out] at h4o; exact h4o)
    have HP := Lib.hid hp
    clear hp
    have h4 := has_grown X3.out O3.out (by decide) h4g
    obtain ⟨n4, hn4⟩ : ∃ n4, n4 = ts.length + 1 := ⟨_, rfl⟩
    rw [← hn4] at HP ⊢
    have H4' := Lib.hid h4
    clear h4o h4g h4b hn4
    refine hK.out _ _ ⟨_, h4⟩ (fun hHeld3 => ?_)
    clear hK K hHeld2 h4
    try simp only [Act.put, List.setIfInBounds_toArray, List.set_cons_zero, List.set_cons_succ]
    refine wpAnyH_take (i := 28) (oi := { dst := some 34, op := Op.nilCheck (Operand.tmp 6), type := 0, pos := "lex.go:54", after := #[{ on := 0, ground := Ground.data }, { on := 0, ground := Ground.phase }, { on := 1, ground := Ground.phase }, { on := 2, ground := Ground.phase }, { on := 3, ground := Ground.phase }, { on := 4, ground := Ground.phase }, { on := 5, ground := Ground.phase }, { on := 6, ground := Ground.phase }, { on := 7, ground := Ground.phase }, { on := 8, ground := Ground.phase }, { on := 9, ground := Ground.phase }, { on := 10, ground := Ground.phase }, { on := 11, ground := Ground.phase }, { on := 12, ground := Ground.phase }, { on := 13, ground := Ground.phase }, { on := 14, ground := Ground.phase }, { on := 15, ground := Ground.phase }, { on := 16, ground := Ground.phase }, { on := 17, ground := Ground.phase }, { on := 18, ground := Ground.phase }, { on := 19, ground := Ground.phase }, { on := 20, ground := Ground.phase }, { on := 21, ground := Ground.phase }, { on := 22, ground := Ground.phase }, { on := 23, ground := Ground.phase }, { on := 24, ground := Ground.phase }, { on := 25, ground := Ground.phase }, { on := 26, ground := Ground.phase }, { on := 27, ground := Ground.phase }], guard := none }) (v := .pointer (some ⟨lb, 0, none⟩)) rfl (by kernel_rfl) (by kernel_rfl) (by kernel_rfl) (fun _ _ _ h => h)
      (Or.inl ⟨by rfl, by intro w hSw; clear hSw; go_simp⟩) hHeld3 ?_
    try simp only [Act.put, List.setIfInBounds_toArray, List.set_cons_zero, List.set_cons_succ]
    refine wpAnyH_take (i := 29) (oi := { dst := some 35, op := Op.fieldAddr 41 (Operand.tmp 34) 2, type := 0, pos := "lex.go:54", after := #[{ on := 28, ground := Ground.data }, { on := 0, ground := Ground.phase }, { on := 1, ground := Ground.phase }, { on := 2, ground := Ground.phase }, { on := 3, ground := Ground.phase }, { on := 4, ground := Ground.phase }, { on := 5, ground := Ground.phase }, { on := 6, ground := Ground.phase }, { on := 7, ground := Ground.phase }, { on := 8, ground := Ground.phase }, { on := 9, ground := Ground.phase }, { on := 10, ground := Ground.phase }, { on := 11, ground := Ground.phase }, { on := 12, ground := Ground.phase }, { on := 13, ground := Ground.phase }, { on := 14, ground := Ground.phase }, { on := 15, ground := Ground.phase }, { on := 16, ground := Ground.phase }, { on := 17, ground := Ground.phase }, { on := 18, ground := Ground.phase }, { on := 19, ground := Ground.phase }, { on := 20, ground := Ground.phase }, { on := 21, ground := Ground.phase }, { on := 22, ground := Ground.phase }, { on := 23, ground := Ground.phase }, { on := 24, ground := Ground.phase }, { on := 25, ground := Ground.phase }, { on := 26, ground := Ground.phase }, { on := 27, ground := Ground.phase }], guard := none }) (v := .pointer (some ⟨lb, 2, none⟩)) rfl (by kernel_rfl) (by kernel_rfl) (by kernel_rfl) (fun _ _ _ h => h)
      (Or.inl ⟨by rfl, by intro w hSw; clear hSw; go_simp⟩) hHeld3 ?_
    try simp only [Act.put, List.setIfInBounds_toArray, List.set_cons_zero, List.set_cons_succ]
    refine wpAnyH_ready (rs := [30]) (by kernel_rfl) (by simp) ?_
    refine AllReadyH.cons (o := { dst := none, op := Op.store 34 (Operand.tmp 35) (Operand.tmp 33), type := 0, pos := "lex.go:54", after := #[{ on := 29, ground := Ground.data }, { on := 27, ground := Ground.data }, { on := 27, ground := Ground.chain }, { on := 0, ground := Ground.phase }, { on := 1, ground := Ground.phase }, { on := 2, ground := Ground.phase }, { on := 3, ground := Ground.phase }, { on := 4, ground := Ground.phase }, { on := 5, ground := Ground.phase }, { on := 6, ground := Ground.phase }, { on := 7, ground := Ground.phase }, { on := 8, ground := Ground.phase }, { on := 9, ground := Ground.phase }, { on := 10, ground := Ground.phase }, { on := 11, ground := Ground.phase }, { on := 12, ground := Ground.phase }, { on := 13, ground := Ground.phase }, { on := 14, ground := Ground.phase }, { on := 15, ground := Ground.phase }, { on := 16, ground := Ground.phase }, { on := 17, ground := Ground.phase }, { on := 18, ground := Ground.phase }, { on := 19, ground := Ground.phase }, { on := 20, ground := Ground.phase }, { on := 21, ground := Ground.phase }, { on := 22, ground := Ground.phase }, { on := 23, ground := Ground.phase }, { on := 24, ground := Ground.phase }, { on := 25, ground := Ground.phase }, { on := 26, ground := Ground.phase }, { on := 27, ground := Ground.phase }], guard := none }) rfl (fun K hK => ?_) AllReadyH.nil
    have hcell4 := H4'.out.cellAt (i := 2) rfl
    have hfrz4 := H4'.out.frozen 2
    go_simp
    clear hcell4 hfrz4
    refine hK.out _ _ ⟨_, H4'.out.set 2 _⟩ (fun hHeld4 => ?_)
    clear hK K hHeld3
    try simp only [Act.put]
    refine wpAnyH_done (by kernel_rfl) ?_ _
    clear hHeld4
    obtain ⟨w5, hw5⟩ : ∃ w5, w5 = w4.setCell ⟨lb, 2, none⟩ (.slice (some ⟨ga, 0, none⟩) n4 capa) := ⟨_, rfl⟩
    rw [← hw5] at HP ⊢
    obtain ⟨vl5, vp5, g1, _, _, _, _⟩ := HP.out
    have c1 := g1.cellAt (i := 1) rfl
    have f1 := g1.frozen 1
    clear g1 hw5
    go_wp2_with fail
    first | go_end0 | (simp only [Exit.inBlock, Exit.then]; refine bodyPost_ret (results_none rfl _ _ _) rfl ?_) | refine bodyPost_ret (results_none rfl _ _ _) rfl ?_
    exact ⟨rfl, by have := HP.out.setAt (a + n); simpa using this⟩

end Go.Proofs.YtnajafnbickiiaaDoor
