/-
  The contract of the lexer's part of a string. Conditions: bounds on the numbers.
-/
import Derived.Test.YtnajafnbickiiaaDoorLNum
import Derived.Laws.BytesString
namespace Go.Proofs.YtnajafnbickiiaaDoor
open Go.RowKit
set_option linter.unusedVariables false

theorem rangeAt_has {w : World} {b : Nat} {L : List Value} {t : TypeId} (h : Has w b L t) : w.rangeAt b 0 L := fun j v hv => by
  rw [Nat.zero_add]; exact h.cellAt hv
theorem info_tok3 (L : List Value) (h : L.length = 3) : (Tryd.prog.info? 50).map (·.size) = some L.length := by
  rw [h]; kernel_rfl

/-- 'string(b)' of bytes of the call's own. -/
theorem convert_own {w : World} {B : Nat} {a : Option Addr} {n cap : Nat} {l : List UInt8} (h : w.ownsRow B 5 1 (.slice a n cap) n (l.map bv)) :
    (convert 77 9 (.slice a n cap)).run Tryd.prog w = .ok (.string ⟨l.toArray⟩) w := by
  have hl : l.length = n := by have := h.1; simpa using this
  rcases h.2 with ⟨hv, h0⟩ | ⟨g, cap', cur, hv, hb, hg, hle, hmx, hsz, htk⟩
  · simp only [Value.slice.injEq] at hv
    obtain ⟨rfl, rfl, rfl⟩ := hv
    obtain rfl : l = [] := List.eq_nil_of_length_eq_zero hl
    rw [run_convert_bytes_string w 77 9 5 none 0 0 Tryd.underlying77 Tryd.underlying5 Tryd.underlying9]
    rfl
  · simp only [Value.slice.injEq] at hv
    obtain ⟨rfl, -, rfl⟩ := hv
    subst hl
    refine run_convert_bytes_back (P := Tryd.prog) w 77 9 5 ⟨g, 0, none⟩ cap l Tryd.underlying77 Tryd.underlying5 Tryd.underlying9 (fun j hj => ?_)
    rw [Addr.add_mid, Nat.zero_add, World.ownsRow.cellAt h j (by omega), List.getElem?_map, List.getElem?_eq_getElem hj]
    rfl

theorem owns_drewN {w : World} {B n size : Nat} {e : TypeId} {v : Value} {xs : List Value} (h : w.ownsRow B e size v n xs) (k : Nat) : (w.drewN k).ownsRow B e size v n xs := by
  induction k with
  | zero => exact h
  | succ k ih => exact ih.drew

/-- As Lx, with the slices named. -/
def LxE (B lb : Nat) (w0 : World) (s : ByteArray) (a : Nat) (ts : List Tk) (q : Bool) (p : List Nat) (vl vp : Value) (w : World) : Prop :=
  Has w lb [.string s, .int .i64 (a : Int), vl, .bool q, vp] 41 ∧ w.ownsRow B 50 3 vl ts.length (tksC ts) ∧ w.ownsRow B 3 1 vp p.length (p.reverse.map iv) ∧ Below B w0 w ∧ B ≤ lb
section
variable {B lb a : Nat} {w0 w : World} {s : ByteArray} {ts : List Tk} {q : Bool} {p : List Nat} {vl vp : Value}
theorem LxE.lx (h : LxE B lb w0 s a ts q p vl vp w) : Lx B lb w0 s a ts q p w := ⟨vl, vp, h⟩
theorem LxE.drew (h : LxE B lb w0 s a ts q p vl vp w) : LxE B lb w0 s a ts q p vl vp w.drew := by
  obtain ⟨h1, h2, h3, h4, h5⟩ := h; exact ⟨h1.drew, h2.drew, h3.drew, h4.drew, h5⟩
theorem LxE.drewN (h : LxE B lb w0 s a ts q p vl vp w) (n : Nat) : LxE B lb w0 s a ts q p vl vp (w.drewN n) := by
  induction n with
  | zero => exact h
  | succ n ih => exact ih.drew
theorem LxE.alloc (h : LxE B lb w0 s a ts q p vl vp w) (o : Obj) : LxE B lb w0 s a ts q p vl vp (w.alloc o) := by
  obtain ⟨h1, h2, h3, h4, h5⟩ := h; exact ⟨h1.alloc o, h2.alloc o, h3.alloc o, h4.alloc (Nat.le_trans h5 (Nat.le_of_lt h1.lt)) o, h5⟩
theorem LxE.setAt (h : LxE B lb w0 s a ts q p vl vp w) (a' : Nat) : LxE B lb w0 s a' ts q p vl vp (w.setCell ⟨lb, 1, none⟩ (.int .i64 (a' : Int))) := by
  obtain ⟨h1, h2, h3, h4, h5⟩ := h
  exact ⟨h1.set 1 _, owns_set h2 h1 (by decide) 1 _, owns_set h3 h1 (by decide) 1 _, h4.setCell (p := ⟨lb, 1, none⟩) h5 _, h5⟩
/-- Bytes of the call's own grow. -/
theorem LxE.bytes (h : LxE B lb w0 s a ts q p vl vp w) {w2 : World} {n : Nat} {v : Value} {xs : List Value} (ho : w.ownsRow B 5 1 v n xs) (hg : w.grownBy w2 v.ownBlock) : LxE B lb w0 s a ts q p vl vp w2 := by
  obtain ⟨h1, h2, h3, h4, h5⟩ := h
  exact ⟨has_grown h1 ho (by decide) hg, h2.kept hg (owns_apart h2 ho (by decide)), h3.kept hg (owns_apart h3 ho (by decide)), h4.grown hg (Nat.le_trans h5 (Nat.le_of_lt h1.lt)) (fun k hk => (ho.lt k hk).1), h5⟩
/-- A store into another block, which is no list's. -/
theorem LxE.other (h : LxE B lb w0 s a ts q p vl vp w) {b : Nat} {L : List Value} (hb : Has w b L 50) (hB : B ≤ b) (hne : vl.ownBlock ≠ some b) (i : Nat) (u : Value) : LxE B lb w0 s a ts q p vl vp (w.setCell ⟨b, i, none⟩ u) := by
  obtain ⟨h1, h2, h3, h4, h5⟩ := h
  have hlb : lb ≠ b := fun e => by
    have h1' : w.heap[lb]? = some (.cells _ 41 (0, 0)) := h1
    have hb' : w.heap[b]? = some (.cells _ 50 (0, 0)) := hb
    rw [e, hb'] at h1'; cases h1'
  refine ⟨h1.setOther (a := ⟨b, i, none⟩) hlb _, h2.kept (row := some b) ⟨rfl, rfl, rfl, by simp [World.setCell], fun k _ hk => heap_setCell_other w ⟨b, i, none⟩ k u (fun e => hk (by simp [e]))⟩ (.inr hne), owns_set h3 hb (by decide) i _, h4.setCell (p := ⟨b, i, none⟩) hB _, h5⟩
end

theorem partL_plain {c : UInt8} {t : List UInt8} (hs : stopL (c :: t) = false) (hc : c.toNat ≠ 92) : partL (c :: t) = ((partL t).1, (partL t).2.1 + 1, c :: (partL t).2.2) := by
  cases t with
  | nil => conv => lhs; rw [partL]
           rw [if_neg (by rw [hs]; simp), if_neg hc]
  | cons d t => conv => lhs; rw [partL]
                rw [if_neg (by rw [hs]; simp), if_neg hc]
theorem partL_stop {l : List UInt8} (h : l = [] ∨ stopL l = true) : partL l = (true, 0, []) := by
  match l with
  | [] => rfl
  | [c] => rw [partL, if_pos (h.resolve_left (by simp))]
  | c :: d :: t => rw [partL, if_pos (h.resolve_left (by simp))]
theorem partL_esc {c d : UInt8} {t : List UInt8} (hs : stopL (c :: d :: t) = false) (hc : c.toNat = 92) (hd : mean1 d ≠ 0) : partL (c :: d :: t) = ((partL t).1, (partL t).2.1 + 2, mean1 d :: (partL t).2.2) := by
  rw [partL, if_neg (by rw [hs]; simp), if_pos hc, if_neg hd]
theorem partL_bad {c : UInt8} {t : List UInt8} (hs : stopL (c :: t) = false) (hc : c.toNat = 92) (hd : meanL t = 0) : partL (c :: t) = (false, 1, []) := by
  cases t with
  | nil => rw [partL, if_neg (by rw [hs]; simp), if_pos hc]
  | cons d t => rw [partL, if_neg (by rw [hs]; simp), if_pos hc, if_pos (show mean1 d = 0 from hd)]

/-- A part on its way: from place m on it stands for the rest, behind txt. -/
def PEQ (L l : List UInt8) (k : Nat) (txt : List UInt8) : Prop := partL L = ((partL l).1, k + (partL l).2.1, txt ++ (partL l).2.2)
theorem PEQ.stop {L l : List UInt8} {k : Nat} {txt : List UInt8} (h : PEQ L l k txt) (hl : l = [] ∨ stopL l = true) : partL L = (true, k, txt) := by
  rw [h, partL_stop hl]; simp
theorem PEQ.plain {L : List UInt8} {c : UInt8} {t : List UInt8} {k : Nat} {txt : List UInt8} (h : PEQ L (c :: t) k txt) (hs : stopL (c :: t) = false) (hc : c.toNat ≠ 92) : PEQ L t (k + 1) (txt ++ [c]) := by
  unfold PEQ at h ⊢
  rw [h, partL_plain hs hc]
  simp only [Prod.mk.injEq, true_and]
  exact ⟨by omega, by simp⟩
theorem PEQ.esc {L : List UInt8} {c d : UInt8} {t : List UInt8} {k : Nat} {txt : List UInt8} (h : PEQ L (c :: d :: t) k txt) (hs : stopL (c :: d :: t) = false) (hc : c.toNat = 92) (hd : mean1 d ≠ 0) : PEQ L t (k + 2) (txt ++ [mean1 d]) := by
  unfold PEQ at h ⊢
  rw [h, partL_esc hs hc hd]
  simp only [Prod.mk.injEq, true_and]
  exact ⟨by omega, by simp⟩
theorem PEQ.bad {L : List UInt8} {c : UInt8} {t : List UInt8} {k : Nat} {txt : List UInt8} (h : PEQ L (c :: t) k txt) (hs : stopL (c :: t) = false) (hc : c.toNat = 92) (hd : meanL t = 0) : (partL L).1 = false ∧ (partL L).2.1 = k + 1 := by
  rw [h, partL_bad hs hc hd]; exact ⟨rfl, rfl⟩

set_option maxRecDepth 100000 in
set_option maxHeartbeats 8000000 in
theorem part_any (B lb : Nat) (w0 : World) (s : ByteArray) (a : Nat) (ts : List Tk) (p : List Nat) (w : World) (hx : Lx B lb w0 s a ts true p w) (ha : a < s.size) (hs : s.size ≤ 8000) (hts : ts.length ≤ 8000)
    (hst : stepL (s.data.toList.drop a) a true p = if (partL (s.data.toList.drop a)).1 = true then .ok ([⟨6, (partL (s.data.toList.drop a)).2.2, a⟩], (partL (s.data.toList.drop a)).2.1, true, p) else .error (a + (partL (s.data.toList.drop a)).2.1, 4)) :
    Calls Tryd.prog 36 #[.pointer (some ⟨lb, 0, none⟩)] w (NxPost B lb w0 s a ts true p) := by
  obtain ⟨i0, hi, hz0, hz1, hz2⟩ := info_parts info_u8
  have HI := Lib.hid hi
  have HZ0 := Lib.hid hz0
  have HZ1 := Lib.hid hz1
  have HZ2 := Lib.hid hz2
  clear hi hz0 hz1 hz2
  obtain ⟨j0, hi, hz0, hz1, hz2⟩ := info_parts info_tok
  have JI := Lib.hid hi
  have JZ0 := Lib.hid hz0
  have JZ1 := Lib.hid hz1
  have JZ2 := Lib.hid hz2
  clear hi hz0 hz1 hz2
  obtain ⟨L, hL⟩ : ∃ L, L = s.data.toList.drop a := ⟨_, rfl⟩
  obtain ⟨vl, vp, hx⟩ := hx
  have hx : LxE B lb w0 s a ts true p vl vp w := hx
  obtain ⟨lv, ln, lc, rfl⟩ := row_form hx.2.1
  have c1 := hx.1.cellAt (i := 1) rfl
  have HX := Lib.hid hx
  rw [← hL] at hst
  have HST := Lib.hid hst
  have HLL := Lib.hid hL
  have HSL : Hid (s.data.toList.length = s.size) := Lib.hid (by simp)
  have hTBL := hx.1.lt
  clear hx hst hL
  go_enter Tryd.func36, Tryd.ntmps36
  go_upto_region 3 with fail
  clear c1
  obtain ⟨tb, htb⟩ : ∃ tb, tb = w.heap.size := ⟨_, rfl⟩
  obtain ⟨sx0, hsx0⟩ : ∃ sx0 : ByteArray, sx0 = ⟨#[]⟩ := ⟨_, rfl⟩
  rw [← hsx0]
  obtain ⟨w1, hw1⟩ : ∃ w1, w1 = w.alloc (.cells #[.int .u8 6, .string sx0, .int .i64 (a : Int)] 50) := ⟨_, rfl⟩
  have HX1 : Hid (LxE B lb w0 s a ts true p (.slice lv ln lc) vp w1) := Lib.hid (by rw [hw1]; exact HX.out.alloc _)
  have HT1 : Hid (Has w1 tb [.int .u8 6, .string sx0, .int .i64 (a : Int)] 50) := Lib.hid (by rw [hw1, htb]; exact Has.new w [.int .u8 6, .string sx0, .int .i64 (a : Int)] _)
  have HNE : Hid ((Value.slice lv ln lc).ownBlock ≠ some tb) := Lib.hid (fun e => by have := (HX.out.2.1.lt tb e).2; rw [htb] at this; exact Nat.lt_irrefl _ this)
  have HTL : Hid (tb ≠ lb) := Lib.hid (by rw [htb]; omega)
  have HBT : Hid (B ≤ tb) := Lib.hid (by rw [htb]; omega)
  rw [← htb, ← hw1]
  clear htb hw1 hTBL hsx0
  have c0 := HX1.out.1.cellAt (i := 0) rfl
  have c1 := HX1.out.1.cellAt (i := 1) rfl
  have hai : (a : Int) ≤ (s.size : Int) := by omega
  go_quiet (fail)
  revert nq
  intro n1
  clear c0 c1 hai
  obtain ⟨w2, hw2⟩ : ∃ w2, w2 = w1.drewN n1 := ⟨_, rfl⟩
  have HX2 : Hid (LxE B lb w0 s a ts true p (.slice lv ln lc) vp w2) := Lib.hid (by rw [hw2]; exact HX1.out.drewN _)
  have HT2 : Hid (Has w2 tb [.int .u8 6, .string sx0, .int .i64 (a : Int)] 50) := Lib.hid (by rw [hw2]; exact has_drewN HT1.out _)
  rw [← hw2]
  clear hw2 HX1 HT1 HX
  go_wp2_with fail
  go_loopg [4, 5] (s.size - a) (fun g v4 v5 wr => ∃ (m : Nat) (txt : List UInt8), g = s.size - m ∧ a ≤ m ∧ m ≤ s.size ∧ v5 = .string (s.extract m s.size) ∧ LxE B lb w0 s m ts true p (.slice lv ln lc) vp wr ∧
    Has wr tb [.int .u8 6, .string sx0, .int .i64 (a : Int)] 50 ∧ wr.ownsRow B 5 1 v4 txt.length (txt.map bv) ∧ PEQ L (s.data.toList.drop m) (m - a) txt ∧ txt.length ≤ m)
  case atStart => exact ⟨a, [], rfl, Nat.le_refl _, Nat.le_of_lt ha, rfl, HX2.out, HT2.out, World.ownsRow_nil _ _ _ _, by unfold PEQ; rw [HLL.out, Nat.sub_self]; simp, Nat.zero_le _⟩
  case round =>
    clear HX2 HT2
    obtain ⟨m, txt, rfl, ham, hms, rfl, hx, ht, ho, hpe, htm⟩ := hrel
    have HX := Lib.hid hx
    have HT := Lib.hid ht
    have HO := Lib.hid ho
    have HPE := Lib.hid hpe
    obtain ⟨va, vc, rfl⟩ := row_len ho
    obtain ⟨rs, hrs⟩ : ∃ rs, rs = s.extract m s.size := ⟨_, rfl⟩
    have hrl : rs.data.toList = s.data.toList.drop m := by rw [hrs, ext_list s m hms]
    have HRS := Lib.hid hrs
    have HRL := Lib.hid hrl
    rw [← hrs]
    clear hx ht ho hpe hrs
    have HC1 : Hid (∀ w, Calls Tryd.prog 35 #[.string rs, .string ⟨#[34]⟩] w fun e w' => e = .returned (.bool ([34].isPrefixOf (s.data.toList.drop m))) ∧ w' = w) := Lib.hid (fun w => by
      have := Tryd.strings_HasPrefix rs ⟨#[34]⟩ w
      rw [HRL.out, hasPrefix_eq] at this; exact this)
    have HC2 : Hid (∀ w, Calls Tryd.prog 35 #[.string rs, .string ⟨#[36, 123]⟩] w fun e w' => e = .returned (.bool ([36, 123].isPrefixOf (s.data.toList.drop m))) ∧ w' = w) := Lib.hid (fun w => by
      have := Tryd.strings_HasPrefix rs ⟨#[36, 123]⟩ w
      rw [HRL.out, hasPrefix_eq] at this; exact this)
    obtain ⟨l, hl⟩ : ∃ l, l = s.data.toList.drop m := ⟨_, rfl⟩
    rw [← hl] at HC1 HC2 HRL HPE
    have HLM := Lib.hid hl
    have hll : l.length = s.size - m := by rw [hl, List.length_drop, HSL.out]
    clear hl hrl
    have HEND : Hid ((l = [] ∨ stopL l = true) → stepL L a true p = .ok ([⟨6, txt, a⟩], m - a, true, p)) := Lib.hid (fun h => by rw [HST.out, HPE.out.stop h]; simp)
    have hcv := convert_own HO.out
    have HMA : Hid (a + (m - a) = m) := Lib.hid (by omega)
    cases hlc : l with
    | nil =>
      have HOK := Lib.hid (HEND.out (.inl hlc))
      have hem : rs.toList.isEmpty = true := by rw [ByteArray.toList_eq, HRL.out, hlc]; rfl
      clear hlc hll
      have ct1 := HT.out.cellAt (i := 1) rfl
      have ft1 := HT.out.frozen 1
      go_upto_region 15 with fail
      clear ct1 ft1 hcv
      obtain ⟨sx, hsx⟩ : ∃ sx : ByteArray, sx = ⟨txt.toArray⟩ := ⟨_, rfl⟩
      have TK : Hid ([Value.int .u8 6, .string sx, .int .i64 (a : Int)] = tkC ⟨6, txt, a⟩) := Lib.hid (by rw [hsx]; rfl)
      have INFT := Lib.hid (info_tok3 [.int .u8 6, .string sx, .int .i64 (a : Int)] rfl)
      rw [← hsx]
      clear hsx
      obtain ⟨wz, hwz⟩ : ∃ wz, wz = wr.setCell ⟨tb, 1, none⟩ (.string sx) := ⟨_, rfl⟩
      have HZ : Hid (LxE B lb w0 s m ts true p (.slice lv ln lc) vp wz) := Lib.hid (by rw [hwz]; exact HX.out.other HT.out HBT.out HNE.out 1 _)
      have HTB : Hid (Has wz tb [.int .u8 6, .string sx, .int .i64 (a : Int)] 50) := Lib.hid (by rw [hwz]; exact HT.out.set 1 _)
      rw [← hwz]
      clear hwz HX HT HO HPE
      refine wp_region_held_drew (S := fun W => (∃ u, Has W lb [.string s, .int .i64 (m : Int), u, .bool true, vp] 41) ∧ Has W tb [.int .u8 6, .string sx, .int .i64 (a : Int)] 50) (by kernel_rfl) ⟨⟨_, HZ.out.1.drew⟩, HTB.out.drew⟩ (fun hHeld => ?_)
      refine wpAnyH_take (i := 0) (oi := { dst := some 72, op := Op.move (Operand.tmp 0), type := 52, pos := "lex.go:185", after := #[], guard := none }) (v := .pointer (some ⟨lb, 0, none⟩)) rfl (by kernel_rfl) (by kernel_rfl) (by kernel_rfl) (fun _ _ _ h => h)
        (Or.inl ⟨by rfl, by intro w hSw; clear hSw; go_simp⟩) hHeld ?_
      try simp only [Act.put, List.setIfInBounds_toArray, List.set_cons_zero, List.set_cons_succ]
      refine wpAnyH_take (i := 1) (oi := { dst := some 73, op := Op.move (Operand.tmp 0), type := 52, pos := "lex.go:185", after := #[], guard := none }) (v := .pointer (some ⟨lb, 0, none⟩)) rfl (by kernel_rfl) (by kernel_rfl) (by kernel_rfl) (fun _ _ _ h => h)
        (Or.inl ⟨by rfl, by intro w hSw; clear hSw; go_simp⟩) hHeld ?_
      try simp only [Act.put, List.setIfInBounds_toArray, List.set_cons_zero, List.set_cons_succ]
      refine wpAnyH_take (i := 2) (oi := { dst := some 74, op := Op.nilCheck (Operand.tmp 73), type := 0, pos := "lex.go:185", after := #[{ on := 1, ground := Ground.data }], guard := none }) (v := .pointer (some ⟨lb, 0, none⟩)) rfl (by kernel_rfl) (by kernel_rfl) (by kernel_rfl) (fun _ _ _ h => h)
        (Or.inl ⟨by rfl, by intro w hSw; clear hSw; go_simp⟩) hHeld ?_
      try simp only [Act.put, List.setIfInBounds_toArray, List.set_cons_zero, List.set_cons_succ]
      refine wpAnyH_take (i := 3) (oi := { dst := some 75, op := Op.fieldAddr 41 (Operand.tmp 74) 2, type := 0, pos := "lex.go:185", after := #[{ on := 2, ground := Ground.data }], guard := none }) (v := .pointer (some ⟨lb, 2, none⟩)) rfl (by kernel_rfl) (by kernel_rfl) (by kernel_rfl) (fun _ _ _ h => h)
        (Or.inl ⟨by rfl, by intro w hSw; clear hSw; go_simp⟩) hHeld ?_
      try simp only [Act.put, List.setIfInBounds_toArray, List.set_cons_zero, List.set_cons_succ]
      refine wpAnyH_take (i := 5) (oi := { dst := some 77, op := Op.load 50 (Operand.tmp 3), type := 50, pos := "lex.go:185", after := #[], guard := none }) rfl (by kernel_rfl) (by kernel_rfl) (by kernel_rfl) (fun _ _ _ h => h)
        (yieldsIf_load_mid (by rfl) 50 (.tmp 3) rfl tb (0) rfl [.int .u8 6, .string sx, .int .i64 (a : Int)] _ (fun _ h => rangeAt_has h.2) Tryd.underlying50 rfl INFT.out) hHeld ?_
      try simp only [Act.put, List.setIfInBounds_toArray, List.set_cons_zero, List.set_cons_succ]
      refine wpAnyH_ready (rs := [4, 6]) (by kernel_rfl) (by simp) ?_
      refine AllReadyH.cons (o := { dst := some 76, op := Op.load 34 (Operand.tmp 75), type := 34, pos := "lex.go:185", after := #[{ on := 3, ground := Ground.data }], guard := none }) rfl (fun K hK => ?_) (AllReadyH.cons (o := { dst := some 78, op := Op.buildSlice 34 1 #[(0, Operand.tmp 77)], type := 34, pos := "lex.go:185", after := #[{ on := 5, ground := Ground.data }], guard := none }) rfl (fun K hK => ?_) AllReadyH.nil)
      · skip
        have hcl := ((⟨HZ.out.1.drew, HTB.out.drew⟩ : Has wz.drew lb _ _ ∧ Has wz.drew tb _ _)).1.cellAt (i := 2) rfl
        go_simp
        clear hcl
        refine hK.out _ _ ⟨⟨_, ((⟨HZ.out.1.drew, HTB.out.drew⟩ : Has wz.drew lb _ _ ∧ Has wz.drew tb _ _)).1⟩, ((⟨HZ.out.1.drew, HTB.out.drew⟩ : Has wz.drew lb _ _ ∧ Has wz.drew tb _ _)).2⟩ (fun hHeld1 => ?_)
        clear hK K hHeld
        try simp only [Act.put, List.setIfInBounds_toArray, List.set_cons_zero, List.set_cons_succ]
        refine wpAnyH_ready (rs := [6]) (by kernel_rfl) (by simp) ?_
        refine AllReadyH.cons (o := { dst := some 78, op := Op.buildSlice 34 1 #[(0, Operand.tmp 77)], type := 34, pos := "lex.go:185", after := #[{ on := 5, ground := Ground.data }], guard := none }) rfl (fun K hK => ?_) AllReadyH.nil
        go_simp
        obtain ⟨w3, hw3⟩ : ∃ w3, w3 = (wz.alloc (.cells #[.int .u8 6, .string sx, .int .i64 (a : Int)] 50)).drew := ⟨_, rfl⟩
        have p3 : Has w3 wz.heap.size [.int .u8 6, .string sx, .int .i64 (a : Int)] 50 := by rw [hw3]; exact (Has.new wz _ _).drew
        have x3 : LxE B lb w0 s m ts true p (.slice lv ln lc) vp w3 := by rw [hw3]; exact (HZ.out.alloc _).drew
        have t3 : Has w3 tb [.int .u8 6, .string sx, .int .i64 (a : Int)] 50 := by rw [hw3]; exact (HTB.out.alloc _).drew
        have s3 : w3.heap.size = wz.heap.size + 1 := by rw [hw3]; simp
        rw [← hw3]
        clear hw3
        have P3 := Lib.hid p3
        have X3 := Lib.hid x3
        have T3 := Lib.hid t3
        clear p3 x3 t3
        refine hK.out _ _ ⟨⟨_, X3.out.1⟩, T3.out⟩ (fun hHeld2 => ?_)
        clear hK K hHeld1
        try simp only [Act.put, List.setIfInBounds_toArray, List.set_cons_zero, List.set_cons_succ]
        refine wpAnyH_ready (rs := [7]) (by kernel_rfl) (by simp) ?_
        refine AllReadyH.cons (o := { dst := some 79, op := Op.call { callee := Callee.builtin Builtin.append, args := #[Operand.tmp 76, Operand.tmp 78], argTypes := #[34, 34] }, type := 34, pos := "lex.go:185", after := #[{ on := 4, ground := Ground.data }, { on := 6, ground := Ground.data }], guard := none }) rfl (fun K hK => ?_) AllReadyH.nil
        rw [if_pos (by rfl)]
        refine wp_append_lies _ (.tmp 76) (.tmp 78) 34 rfl B 50 j0 (.agg #[.int .u8 0, .string ByteArray.empty, .int .i64 0]) 3 32 Tryd.underlying34 JI.out JZ0.out JZ1.out JZ2.out rfl (by omega) (.slice lv ln lc) ts.length (tksC ts) rfl X3.out.2.1 ⟨wz.heap.size, 0, none⟩ 1 1 [.int .u8 6, .string sx, .int .i64 (a : Int)] rfl rfl (fun j u hj => ?_) (fun u hu => ?_) (by omega) (by unfold maxLen; omega) (by omega) (by have := X3.out.1.lt; have := X3.out.2.2.2.2; omega) w3.heap.size rfl (fun ga capa w4 h4o h4g h4b h4s => ?_)
        · rw [Addr.add_lit]; exact P3.out.cellAt (by rw [Nat.zero_add]; exact hj)
        · simp only [List.mem_cons, List.not_mem_nil, or_false] at hu; rcases hu with rfl | rfl | rfl <;> rfl
        have hp := Lx.push (t := ⟨6, txt, a⟩) X3.out.1 X3.out.2.1 X3.out.2.2.1 X3.out.2.2.2.1 X3.out.2.2.2.2 h4g (by rw [TK.out] at h4o; exact h4o)
        have HP := Lib.hid hp
        clear hp
        have h4 := has_grown X3.out.1 X3.out.2.1 (by decide) h4g
        have h5 : Has w4 tb [.int .u8 6, .string sx, .int .i64 (a : Int)] 50 := (h4g.block tb T3.out.lt (fun e => HNE.out e.symm)).trans T3.out
        obtain ⟨n4, hn4⟩ : ∃ n4, n4 = ts.length + 1 := ⟨_, rfl⟩
        rw [← hn4] at HP ⊢
        have H4' := Lib.hid h4
        have H5' := Lib.hid h5
        clear h4o h4g h4b hn4
        refine hK.out _ _ ⟨⟨_, h4⟩, h5⟩ (fun hHeld3 => ?_)
        clear hK K hHeld2 h4 h5
        try simp only [Act.put, List.setIfInBounds_toArray, List.set_cons_zero, List.set_cons_succ]
        refine wpAnyH_take (i := 8) (oi := { dst := some 80, op := Op.nilCheck (Operand.tmp 72), type := 0, pos := "lex.go:185", after := #[{ on := 0, ground := Ground.data }, { on := 0, ground := Ground.phase }, { on := 1, ground := Ground.phase }, { on := 2, ground := Ground.phase }, { on := 3, ground := Ground.phase }, { on := 4, ground := Ground.phase }, { on := 5, ground := Ground.phase }, { on := 6, ground := Ground.phase }, { on := 7, ground := Ground.phase }], guard := none }) (v := .pointer (some ⟨lb, 0, none⟩)) rfl (by kernel_rfl) (by kernel_rfl) (by kernel_rfl) (fun _ _ _ h => h)
          (Or.inl ⟨by rfl, by intro w hSw; clear hSw; go_simp⟩) hHeld3 ?_
        try simp only [Act.put, List.setIfInBounds_toArray, List.set_cons_zero, List.set_cons_succ]
        refine wpAnyH_take (i := 9) (oi := { dst := some 81, op := Op.fieldAddr 41 (Operand.tmp 80) 2, type := 0, pos := "lex.go:185", after := #[{ on := 8, ground := Ground.data }, { on := 0, ground := Ground.phase }, { on := 1, ground := Ground.phase }, { on := 2, ground := Ground.phase }, { on := 3, ground := Ground.phase }, { on := 4, ground := Ground.phase }, { on := 5, ground := Ground.phase }, { on := 6, ground := Ground.phase }, { on := 7, ground := Ground.phase }], guard := none }) (v := .pointer (some ⟨lb, 2, none⟩)) rfl (by kernel_rfl) (by kernel_rfl) (by kernel_rfl) (fun _ _ _ h => h)
          (Or.inl ⟨by rfl, by intro w hSw; clear hSw; go_simp⟩) hHeld3 ?_
        try simp only [Act.put, List.setIfInBounds_toArray, List.set_cons_zero, List.set_cons_succ]
        refine wpAnyH_ready (rs := [10]) (by kernel_rfl) (by simp) ?_
        refine AllReadyH.cons (o := { dst := none, op := Op.store 34 (Operand.tmp 81) (Operand.tmp 79), type := 0, pos := "lex.go:185", after := #[{ on := 9, ground := Ground.data }, { on := 7, ground := Ground.data }, { on := 7, ground := Ground.chain }, { on := 0, ground := Ground.phase }, { on := 1, ground := Ground.phase }, { on := 2, ground := Ground.phase }, { on := 3, ground := Ground.phase }, { on := 4, ground := Ground.phase }, { on := 5, ground := Ground.phase }, { on := 6, ground := Ground.phase }, { on := 7, ground := Ground.phase }], guard := none }) rfl (fun K hK => ?_) AllReadyH.nil
        have hcell4 := H4'.out.cellAt (i := 2) rfl
        have hfrz4 := H4'.out.frozen 2
        go_simp
        clear hcell4 hfrz4
        refine hK.out _ _ ⟨⟨_, H4'.out.set 2 _⟩, H5'.out.setOther (a := ⟨lb, 2, none⟩) (fun e => HTL.out e) _⟩ (fun hHeld4 => ?_)
        clear hK K hHeld3
        try simp only [Act.put]
        refine wpAnyH_done (by kernel_rfl) ?_ _
        clear hHeld4
        go_wp2_with fail
        go_ret
        exact nx_ok (by rw [← HLL.out]; exact HOK.out) rfl (by rw [HMA.out]; exact HP.out)
      · skip
        go_simp
        obtain ⟨w3, hw3⟩ : ∃ w3, w3 = (wz.alloc (.cells #[.int .u8 6, .string sx, .int .i64 (a : Int)] 50)).drew := ⟨_, rfl⟩
        have p3 : Has w3 wz.heap.size [.int .u8 6, .string sx, .int .i64 (a : Int)] 50 := by rw [hw3]; exact (Has.new wz _ _).drew
        have x3 : LxE B lb w0 s m ts true p (.slice lv ln lc) vp w3 := by rw [hw3]; exact (HZ.out.alloc _).drew
        have t3 : Has w3 tb [.int .u8 6, .string sx, .int .i64 (a : Int)] 50 := by rw [hw3]; exact (HTB.out.alloc _).drew
        have s3 : w3.heap.size = wz.heap.size + 1 := by rw [hw3]; simp
        rw [← hw3]
        clear hw3
        have P3 := Lib.hid p3
        have X3 := Lib.hid x3
        have T3 := Lib.hid t3
        clear p3 x3 t3
        refine hK.out _ _ ⟨⟨_, X3.out.1⟩, T3.out⟩ (fun hHeld1 => ?_)
        clear hK K hHeld
        try simp only [Act.put, List.setIfInBounds_toArray, List.set_cons_zero, List.set_cons_succ]
        refine wpAnyH_ready (rs := [4]) (by kernel_rfl) (by simp) ?_
        refine AllReadyH.cons (o := { dst := some 76, op := Op.load 34 (Operand.tmp 75), type := 34, pos := "lex.go:185", after := #[{ on := 3, ground := Ground.data }], guard := none }) rfl (fun K hK => ?_) AllReadyH.nil
        have hcl := ((⟨X3.out.1, T3.out⟩ : Has w3 lb _ _ ∧ Has w3 tb _ _)).1.cellAt (i := 2) rfl
        go_simp
        clear hcl
        refine hK.out _ _ ⟨⟨_, ((⟨X3.out.1, T3.out⟩ : Has w3 lb _ _ ∧ Has w3 tb _ _)).1⟩, ((⟨X3.out.1, T3.out⟩ : Has w3 lb _ _ ∧ Has w3 tb _ _)).2⟩ (fun hHeld2 => ?_)
        clear hK K hHeld1
        try simp only [Act.put, List.setIfInBounds_toArray, List.set_cons_zero, List.set_cons_succ]
        refine wpAnyH_ready (rs := [7]) (by kernel_rfl) (by simp) ?_
        refine AllReadyH.cons (o := { dst := some 79, op := Op.call { callee := Callee.builtin Builtin.append, args := #[Operand.tmp 76, Operand.tmp 78], argTypes := #[34, 34] }, type := 34, pos := "lex.go:185", after := #[{ on := 4, ground := Ground.data }, { on := 6, ground := Ground.data }], guard := none }) rfl (fun K hK => ?_) AllReadyH.nil
        rw [if_pos (by rfl)]
        refine wp_append_lies _ (.tmp 76) (.tmp 78) 34 rfl B 50 j0 (.agg #[.int .u8 0, .string ByteArray.empty, .int .i64 0]) 3 32 Tryd.underlying34 JI.out JZ0.out JZ1.out JZ2.out rfl (by omega) (.slice lv ln lc) ts.length (tksC ts) rfl X3.out.2.1 ⟨wz.heap.size, 0, none⟩ 1 1 [.int .u8 6, .string sx, .int .i64 (a : Int)] rfl rfl (fun j u hj => ?_) (fun u hu => ?_) (by omega) (by unfold maxLen; omega) (by omega) (by have := X3.out.1.lt; have := X3.out.2.2.2.2; omega) w3.heap.size rfl (fun ga capa w4 h4o h4g h4b h4s => ?_)
        · rw [Addr.add_lit]; exact P3.out.cellAt (by rw [Nat.zero_add]; exact hj)
        · simp only [List.mem_cons, List.not_mem_nil, or_false] at hu; rcases hu with rfl | rfl | rfl <;> rfl
        have hp := Lx.push (t := ⟨6, txt, a⟩) X3.out.1 X3.out.2.1 X3.out.2.2.1 X3.out.2.2.2.1 X3.out.2.2.2.2 h4g (by rw [TK.out] at h4o; exact h4o)
        have HP := Lib.hid hp
        clear hp
        have h4 := has_grown X3.out.1 X3.out.2.1 (by decide) h4g
        have h5 : Has w4 tb [.int .u8 6, .string sx, .int .i64 (a : Int)] 50 := (h4g.block tb T3.out.lt (fun e => HNE.out e.symm)).trans T3.out
        obtain ⟨n4, hn4⟩ : ∃ n4, n4 = ts.length + 1 := ⟨_, rfl⟩
        rw [← hn4] at HP ⊢
        have H4' := Lib.hid h4
        have H5' := Lib.hid h5
        clear h4o h4g h4b hn4
        refine hK.out _ _ ⟨⟨_, h4⟩, h5⟩ (fun hHeld3 => ?_)
        clear hK K hHeld2 h4 h5
        try simp only [Act.put, List.setIfInBounds_toArray, List.set_cons_zero, List.set_cons_succ]
        refine wpAnyH_take (i := 8) (oi := { dst := some 80, op := Op.nilCheck (Operand.tmp 72), type := 0, pos := "lex.go:185", after := #[{ on := 0, ground := Ground.data }, { on := 0, ground := Ground.phase }, { on := 1, ground := Ground.phase }, { on := 2, ground := Ground.phase }, { on := 3, ground := Ground.phase }, { on := 4, ground := Ground.phase }, { on := 5, ground := Ground.phase }, { on := 6, ground := Ground.phase }, { on := 7, ground := Ground.phase }], guard := none }) (v := .pointer (some ⟨lb, 0, none⟩)) rfl (by kernel_rfl) (by kernel_rfl) (by kernel_rfl) (fun _ _ _ h => h)
          (Or.inl ⟨by rfl, by intro w hSw; clear hSw; go_simp⟩) hHeld3 ?_
        try simp only [Act.put, List.setIfInBounds_toArray, List.set_cons_zero, List.set_cons_succ]
        refine wpAnyH_take (i := 9) (oi := { dst := some 81, op := Op.fieldAddr 41 (Operand.tmp 80) 2, type := 0, pos := "lex.go:185", after := #[{ on := 8, ground := Ground.data }, { on := 0, ground := Ground.phase }, { on := 1, ground := Ground.phase }, { on := 2, ground := Ground.phase }, { on := 3, ground := Ground.phase }, { on := 4, ground := Ground.phase }, { on := 5, ground := Ground.phase }, { on := 6, ground := Ground.phase }, { on := 7, ground := Ground.phase }], guard := none }) (v := .pointer (some ⟨lb, 2, none⟩)) rfl (by kernel_rfl) (by kernel_rfl) (by kernel_rfl) (fun _ _ _ h => h)
          (Or.inl ⟨by rfl, by intro w hSw; clear hSw; go_simp⟩) hHeld3 ?_
        try simp only [Act.put, List.setIfInBounds_toArray, List.set_cons_zero, List.set_cons_succ]
        refine wpAnyH_ready (rs := [10]) (by kernel_rfl) (by simp) ?_
        refine AllReadyH.cons (o := { dst := none, op := Op.store 34 (Operand.tmp 81) (Operand.tmp 79), type := 0, pos := "lex.go:185", after := #[{ on := 9, ground := Ground.data }, { on := 7, ground := Ground.data }, { on := 7, ground := Ground.chain }, { on := 0, ground := Ground.phase }, { on := 1, ground := Ground.phase }, { on := 2, ground := Ground.phase }, { on := 3, ground := Ground.phase }, { on := 4, ground := Ground.phase }, { on := 5, ground := Ground.phase }, { on := 6, ground := Ground.phase }, { on := 7, ground := Ground.phase }], guard := none }) rfl (fun K hK => ?_) AllReadyH.nil
        have hcell4 := H4'.out.cellAt (i := 2) rfl
        have hfrz4 := H4'.out.frozen 2
        go_simp
        clear hcell4 hfrz4
        refine hK.out _ _ ⟨⟨_, H4'.out.set 2 _⟩, H5'.out.setOther (a := ⟨lb, 2, none⟩) (fun e => HTL.out e) _⟩ (fun hHeld4 => ?_)
        clear hK K hHeld3
        try simp only [Act.put]
        refine wpAnyH_done (by kernel_rfl) ?_ _
        clear hHeld4
        go_wp2_with fail
        go_ret
        exact nx_ok (by rw [← HLL.out]; exact HOK.out) rfl (by rw [HMA.out]; exact HP.out)
    | cons c t =>
      have hem : rs.toList.isEmpty = false := by rw [ByteArray.toList_eq, HRL.out, hlc]; rfl
      cases hb1 : [34].isPrefixOf l
      · cases hb2 : [36, 123].isPrefixOf l
        · skip
          have hstop : stopL (c :: t) = false := by unfold stopL; rw [← hlc, hb1, hb2]; rfl
          have hlt : m < s.size := by rw [hlc] at hll; simp at hll; omega
          have hrsz : 0 < rs.size := by have h1 := congrArg List.length HRL.out; rw [hlc] at h1; have h2 : rs.data.toList.length = rs.size := by simp
                                        rw [h2] at h1; simp at h1; omega
          have hget := str_get rs 0 hrsz
          rw [HRL.out, hlc] at hget
          simp only [List.getD_eq_getElem?_getD, List.getElem?_cons_zero, Option.getD_some] at hget
          have hrsi : (0 : Int) < (rs.size : Int) := by omega
          have HNX : Hid (s.data.toList.drop (m + 1) = t) := Lib.hid (by have h1 := lexA_cons hlt; rw [← HLM.out, hlc] at h1; exact (List.cons.inj h1).2.symm)
          have B1 := Lib.hid hb1
          have B2 := Lib.hid hb2
          have HPC : Hid (PEQ L (c :: t) (m - a) txt) := Lib.hid (by rw [← hlc]; exact HPE.out)
          have HSTOP := Lib.hid hstop
          have hmi0 : (m : Int) < (s.size : Int) := by omega
          clear hb1 hb2 hstop hcv
          by_cases h92 : c.toNat = 92
          · have hc92 : (c.toNat : Int) = 92 := by omega
            have HME : Hid (∀ w, Calls Tryd.prog 51 #[.string (rs.extract 1 rs.size)] w fun e w' => e = .returned (.int .u8 ((meanL t).toNat : Int)) ∧ w = w') := Lib.hid (fun w => by
              have := meant_any (rs.extract 1 rs.size) w
              rw [ext_list rs 1 hrsz, HRL.out, hlc] at this; exact this)
            have HLC := Lib.hid hlc
            clear hlc
            have hr1 : (1 : Int) ≤ (rs.size : Int) := by omega
            have c1 := HX.out.1.cellAt (i := 1) rfl
            have f1 := HX.out.1.frozen 1
            go_wp2_with fail
            refine (HC1.out _).mono ?_
            rintro e w' ⟨rfl, rfl⟩
            rw [B1.out]
            go_wp2_with fail
            refine (HC2.out _).mono ?_
            rintro e w' ⟨rfl, rfl⟩
            rw [B2.out]
            go_wp2_with fail
            refine (HME.out _).mono ?_
            rintro e w7 ⟨rfl, rfl⟩
            clear c1 f1
            by_cases hm0 : meanL t = 0
            · have hmz : ((meanL t).toNat : Int) = 0 := by rw [hm0]; rfl
              have HBAD := Lib.hid (HPC.out.bad HSTOP.out h92 hm0)
              have HERR : Hid (stepL L a true p = .error (m + 1, 4)) := Lib.hid (by rw [HST.out, if_neg (by rw [HBAD.out.1]; simp), HBAD.out.2]; congr 2; omega)
              clear hm0
              go_wp2_with fail
              go_ret
              exact nx_error (by rw [← HLL.out]; exact HERR.out) rfl (HX.out.setAt (m + 1)).lx
            · have hmz : ¬ ((meanL t).toNat : Int) = 0 := fun e => hm0 (UInt8.toNat_inj.1 (by have : (0 : UInt8).toNat = 0 := rfl; omega))
              obtain ⟨d, t', hdt⟩ : ∃ d t', t = d :: t' := by cases t with | nil => exact absurd rfl hm0 | cons d t' => exact ⟨d, t', rfl⟩
              have hlt2 : m + 1 < s.size := by have := hll; rw [HLC.out, hdt] at this; simp at this; omega
              have HPN : Hid (PEQ L (s.data.toList.drop (m + 2)) (m + 2 - a) (txt ++ [meanL t])) := Lib.hid (by
                have h1 := lexA_cons hlt2
                rw [HNX.out, hdt] at h1
                have h2 := (List.cons.inj h1).2
                have h3 := HPC.out
                rw [hdt] at h3
                have h4 := h3.esc (by rw [← hdt]; exact HSTOP.out) h92 (by have := hm0; rw [hdt] at this; exact this)
                rw [← h2, hdt, show m + 2 - a = m - a + 2 by omega]; exact h4)
              obtain ⟨md, hmd⟩ : ∃ md, md = meanL t := ⟨_, rfl⟩
              rw [← hmd] at hmz HPN ⊢
              clear hm0 hmd hdt
              go_upto_region 12 with fail
              obtain ⟨wa, hwa⟩ : ∃ wa, wa = w'.setCell ⟨lb, 1, none⟩ (.int .i64 ((m : Int) + 1)) := ⟨_, rfl⟩
              have HXA : Hid (LxE B lb w0 s (m + 1) ts true p (.slice lv ln lc) vp wa) := Lib.hid (by rw [hwa]; exact HX.out.setAt (m + 1))
              have HTA : Hid (Has wa tb [.int .u8 6, .string sx0, .int .i64 (a : Int)] 50) := Lib.hid (by rw [hwa]; exact HT.out.setOther (a := ⟨lb, 1, none⟩) HTL.out _)
              have hown2 : wa.ownsRow B 5 1 (.slice va txt.length vc) txt.length (txt.map bv) := by rw [hwa]; exact owns_set HO.out HX.out.1 (by decide) 1 _
              rw [← hwa]
              clear hwa
              go_wp2_with (at_builtin; go_must (refine wpList_append_lies _ rfl (.tmp 58) (.tmp 60) 77 rfl B 5 i0 (.int .u8 0) 1 1 Tryd.underlying77 HI.out HZ0.out HZ1.out HZ2.out rfl (by omega) _ txt.length (txt.map bv) rfl (hown2.alloc _) ⟨wa.heap.size, 0, none⟩ 1 1 [.int .u8 (md.toNat : Int)] rfl rfl ?d1 ?d2 ?d3 ?d4 ?d5 ?d6 _ rfl ?d7))
              case d1 => intro j u hj; rw [Addr.add_mid]; exact (Has.new wa [.int .u8 (md.toNat : Int)] _).cellAt (by rw [Nat.zero_add]; exact hj)
              case d2 => intro u hu; simp at hu; subst hu; rfl
              case d3 => omega
              case d4 => unfold maxLen; omega
              case d5 => omega
              case d6 => have := HXA.out.1.lt; have := HXA.out.2.2.2.2; simp; omega
              intro g cap2 w5 hown3 hgrow2 hlo2 hhi2
              have HX5 : Hid (LxE B lb w0 s (m + 1) ts true p (.slice lv ln lc) vp w5) := Lib.hid ((HXA.out.alloc _).bytes (hown2.alloc _) hgrow2)
              have HT5 : Hid (Has w5 tb [.int .u8 6, .string sx0, .int .i64 (a : Int)] 50) := Lib.hid (has_grown (HTA.out.alloc _) (hown2.alloc _) (by decide) hgrow2)
              have HO5 : Hid (w5.ownsRow B 5 1 (.slice (some ⟨g, 0, none⟩) (txt.length + 1) cap2) (txt ++ [md]).length ((txt ++ [md]).map bv)) := Lib.hid (by rw [List.length_append, List.map_append]; exact hown3)
              clear hown3 hgrow2 hown2 hlo2 hhi2
              have c1 := HX5.out.1.cellAt (i := 1) rfl
              have f1 := HX5.out.1.frozen 1
              go_upto_region 5 with fail
              clear c1 f1
              obtain ⟨w6, hw6⟩ : ∃ w6, w6 = w5.setCell ⟨lb, 1, none⟩ (.int .i64 ((m : Int) + 1 + 1)) := ⟨_, rfl⟩
              have HX6 : Hid (LxE B lb w0 s (m + 2) ts true p (.slice lv ln lc) vp w6) := Lib.hid (by rw [hw6]; exact HX5.out.setAt (m + 2))
              have HT6 : Hid (Has w6 tb [.int .u8 6, .string sx0, .int .i64 (a : Int)] 50) := Lib.hid (by rw [hw6]; exact HT5.out.setOther (a := ⟨lb, 1, none⟩) HTL.out _)
              have HO6 : Hid (w6.ownsRow B 5 1 (.slice (some ⟨g, 0, none⟩) (txt.length + 1) cap2) (txt ++ [md]).length ((txt ++ [md]).map bv)) := Lib.hid (by rw [hw6]; exact owns_set HO5.out HX5.out.1 (by decide) 1 _)
              rw [← hw6]
              clear hw6
              have c0 := HX6.out.1.cellAt (i := 0) rfl
              have c1 := HX6.out.1.cellAt (i := 1) rfl
              have hmi : ((m + 2 : Nat) : Int) ≤ (s.size : Int) := by omega
              go_quiet (fail)
              go_wp2_with fail
              go_roundg (s.size - (m + 2))
              case rel => exact ⟨m + 2, txt ++ [md], rfl, by omega, by omega, rfl, HX6.out.drewN _, has_drewN HT6.out _, owns_drewN HO6.out _, HPN.out, by rw [List.length_append]; simp; omega⟩
              case measure => omega
          · have hc92 : ¬ (c.toNat : Int) = 92 := by omega
            have HPN : Hid (PEQ L (s.data.toList.drop (m + 1)) (m + 1 - a) (txt ++ [c])) := Lib.hid (by rw [HNX.out, show m + 1 - a = m - a + 1 by omega]; exact HPC.out.plain HSTOP.out h92)
            clear hlc hll
            go_wp2_with fail
            refine (HC1.out _).mono ?_
            rintro e w' ⟨rfl, rfl⟩
            rw [B1.out]
            go_wp2_with fail
            refine (HC2.out _).mono ?_
            rintro e w' ⟨rfl, rfl⟩
            rw [B2.out]
            go_upto_region 12 with fail
            have HXA := Lib.hid HX.out
            have HTA := Lib.hid HT.out
            have hown2 := HO.out
            go_wp2_with (at_builtin; go_must (refine wpList_append_lies _ rfl (.tmp 58) (.tmp 60) 77 rfl B 5 i0 (.int .u8 0) 1 1 Tryd.underlying77 HI.out HZ0.out HZ1.out HZ2.out rfl (by omega) _ txt.length (txt.map bv) rfl (hown2.alloc _) ⟨w'.heap.size, 0, none⟩ 1 1 [.int .u8 (c.toNat : Int)] rfl rfl ?c1 ?c2 ?c3 ?c4 ?c5 ?c6 _ rfl ?c7))
            case c1 => intro j u hj; rw [Addr.add_mid]; exact (Has.new w' [.int .u8 (c.toNat : Int)] _).cellAt (by rw [Nat.zero_add]; exact hj)
            case c2 => intro u hu; simp at hu; subst hu; rfl
            case c3 => omega
            case c4 => unfold maxLen; omega
            case c5 => omega
            case c6 => have := HXA.out.1.lt; have := HXA.out.2.2.2.2; simp; omega
            intro g cap2 w5 hown3 hgrow2 hlo2 hhi2
            have HX5 : Hid (LxE B lb w0 s m ts true p (.slice lv ln lc) vp w5) := Lib.hid ((HXA.out.alloc _).bytes (hown2.alloc _) hgrow2)
            have HT5 : Hid (Has w5 tb [.int .u8 6, .string sx0, .int .i64 (a : Int)] 50) := Lib.hid (has_grown (HTA.out.alloc _) (hown2.alloc _) (by decide) hgrow2)
            have HO5 : Hid (w5.ownsRow B 5 1 (.slice (some ⟨g, 0, none⟩) (txt.length + 1) cap2) (txt ++ [c]).length ((txt ++ [c]).map bv)) := Lib.hid (by rw [List.length_append, List.map_append]; exact hown3)
            clear hown3 hgrow2 hown2 hlo2 hhi2
            have c1 := HX5.out.1.cellAt (i := 1) rfl
            have f1 := HX5.out.1.frozen 1
            go_upto_region 5 with fail
            clear c1 f1
            obtain ⟨w6, hw6⟩ : ∃ w6, w6 = w5.setCell ⟨lb, 1, none⟩ (.int .i64 ((m : Int) + 1)) := ⟨_, rfl⟩
            have HX6 : Hid (LxE B lb w0 s (m + 1) ts true p (.slice lv ln lc) vp w6) := Lib.hid (by rw [hw6]; exact HX5.out.setAt (m + 1))
            have HT6 : Hid (Has w6 tb [.int .u8 6, .string sx0, .int .i64 (a : Int)] 50) := Lib.hid (by rw [hw6]; exact HT5.out.setOther (a := ⟨lb, 1, none⟩) HTL.out _)
            have HO6 : Hid (w6.ownsRow B 5 1 (.slice (some ⟨g, 0, none⟩) (txt.length + 1) cap2) (txt ++ [c]).length ((txt ++ [c]).map bv)) := Lib.hid (by rw [hw6]; exact owns_set HO5.out HX5.out.1 (by decide) 1 _)
            rw [← hw6]
            clear hw6
            have c0 := HX6.out.1.cellAt (i := 0) rfl
            have c1 := HX6.out.1.cellAt (i := 1) rfl
            have hmi : ((m + 1 : Nat) : Int) ≤ (s.size : Int) := by omega
            go_quiet (fail)
            go_wp2_with fail
            go_roundg (s.size - (m + 1))
            case rel => exact ⟨m + 1, txt ++ [c], rfl, by omega, by omega, rfl, HX6.out.drewN _, has_drewN HT6.out _, owns_drewN HO6.out _, HPN.out, by rw [List.length_append]; simp; omega⟩
            case measure => omega
        · have HOK := Lib.hid (HEND.out (.inr (by unfold stopL; rw [hb1, hb2]; rfl)))
          have B1 := Lib.hid hb1
          have B2 := Lib.hid hb2
          clear hb1 hb2 hlc hll
          have ct1 := HT.out.cellAt (i := 1) rfl
          have ft1 := HT.out.frozen 1
          go_wp2_with fail
          refine (HC1.out _).mono ?_
          rintro e w' ⟨rfl, rfl⟩
          rw [B1.out]
          go_wp2_with fail
          refine (HC2.out _).mono ?_
          rintro e w' ⟨rfl, rfl⟩
          rw [B2.out]
          go_upto_region 15 with fail
          clear ct1 ft1 hcv
          obtain ⟨sx, hsx⟩ : ∃ sx : ByteArray, sx = ⟨txt.toArray⟩ := ⟨_, rfl⟩
          have TK : Hid ([Value.int .u8 6, .string sx, .int .i64 (a : Int)] = tkC ⟨6, txt, a⟩) := Lib.hid (by rw [hsx]; rfl)
          have INFT := Lib.hid (info_tok3 [.int .u8 6, .string sx, .int .i64 (a : Int)] rfl)
          rw [← hsx]
          clear hsx
          obtain ⟨wz, hwz⟩ : ∃ wz, wz = w'.setCell ⟨tb, 1, none⟩ (.string sx) := ⟨_, rfl⟩
          have HZ : Hid (LxE B lb w0 s m ts true p (.slice lv ln lc) vp wz) := Lib.hid (by rw [hwz]; exact HX.out.other HT.out HBT.out HNE.out 1 _)
          have HTB : Hid (Has wz tb [.int .u8 6, .string sx, .int .i64 (a : Int)] 50) := Lib.hid (by rw [hwz]; exact HT.out.set 1 _)
          rw [← hwz]
          clear hwz HX HT HO HPE
          refine wp_region_held_drew (S := fun W => (∃ u, Has W lb [.string s, .int .i64 (m : Int), u, .bool true, vp] 41) ∧ Has W tb [.int .u8 6, .string sx, .int .i64 (a : Int)] 50) (by kernel_rfl) ⟨⟨_, HZ.out.1.drew⟩, HTB.out.drew⟩ (fun hHeld => ?_)
          refine wpAnyH_take (i := 0) (oi := { dst := some 72, op := Op.move (Operand.tmp 0), type := 52, pos := "lex.go:185", after := #[], guard := none }) (v := .pointer (some ⟨lb, 0, none⟩)) rfl (by kernel_rfl) (by kernel_rfl) (by kernel_rfl) (fun _ _ _ h => h)
            (Or.inl ⟨by rfl, by intro w hSw; clear hSw; go_simp⟩) hHeld ?_
          try simp only [Act.put, List.setIfInBounds_toArray, List.set_cons_zero, List.set_cons_succ]
          refine wpAnyH_take (i := 1) (oi := { dst := some 73, op := Op.move (Operand.tmp 0), type := 52, pos := "lex.go:185", after := #[], guard := none }) (v := .pointer (some ⟨lb, 0, none⟩)) rfl (by kernel_rfl) (by kernel_rfl) (by kernel_rfl) (fun _ _ _ h => h)
            (Or.inl ⟨by rfl, by intro w hSw; clear hSw; go_simp⟩) hHeld ?_
          try simp only [Act.put, List.setIfInBounds_toArray, List.set_cons_zero, List.set_cons_succ]
          refine wpAnyH_take (i := 2) (oi := { dst := some 74, op := Op.nilCheck (Operand.tmp 73), type := 0, pos := "lex.go:185", after := #[{ on := 1, ground := Ground.data }], guard := none }) (v := .pointer (some ⟨lb, 0, none⟩)) rfl (by kernel_rfl) (by kernel_rfl) (by kernel_rfl) (fun _ _ _ h => h)
            (Or.inl ⟨by rfl, by intro w hSw; clear hSw; go_simp⟩) hHeld ?_
          try simp only [Act.put, List.setIfInBounds_toArray, List.set_cons_zero, List.set_cons_succ]
          refine wpAnyH_take (i := 3) (oi := { dst := some 75, op := Op.fieldAddr 41 (Operand.tmp 74) 2, type := 0, pos := "lex.go:185", after := #[{ on := 2, ground := Ground.data }], guard := none }) (v := .pointer (some ⟨lb, 2, none⟩)) rfl (by kernel_rfl) (by kernel_rfl) (by kernel_rfl) (fun _ _ _ h => h)
            (Or.inl ⟨by rfl, by intro w hSw; clear hSw; go_simp⟩) hHeld ?_
          try simp only [Act.put, List.setIfInBounds_toArray, List.set_cons_zero, List.set_cons_succ]
          refine wpAnyH_take (i := 5) (oi := { dst := some 77, op := Op.load 50 (Operand.tmp 3), type := 50, pos := "lex.go:185", after := #[], guard := none }) rfl (by kernel_rfl) (by kernel_rfl) (by kernel_rfl) (fun _ _ _ h => h)
            (yieldsIf_load_mid (by rfl) 50 (.tmp 3) rfl tb (0) rfl [.int .u8 6, .string sx, .int .i64 (a : Int)] _ (fun _ h => rangeAt_has h.2) Tryd.underlying50 rfl INFT.out) hHeld ?_
          try simp only [Act.put, List.setIfInBounds_toArray, List.set_cons_zero, List.set_cons_succ]
          refine wpAnyH_ready (rs := [4, 6]) (by kernel_rfl) (by simp) ?_
          refine AllReadyH.cons (o := { dst := some 76, op := Op.load 34 (Operand.tmp 75), type := 34, pos := "lex.go:185", after := #[{ on := 3, ground := Ground.data }], guard := none }) rfl (fun K hK => ?_) (AllReadyH.cons (o := { dst := some 78, op := Op.buildSlice 34 1 #[(0, Operand.tmp 77)], type := 34, pos := "lex.go:185", after := #[{ on := 5, ground := Ground.data }], guard := none }) rfl (fun K hK => ?_) AllReadyH.nil)
          · skip
            have hcl := ((⟨HZ.out.1.drew, HTB.out.drew⟩ : Has wz.drew lb _ _ ∧ Has wz.drew tb _ _)).1.cellAt (i := 2) rfl
            go_simp
            clear hcl
            refine hK.out _ _ ⟨⟨_, ((⟨HZ.out.1.drew, HTB.out.drew⟩ : Has wz.drew lb _ _ ∧ Has wz.drew tb _ _)).1⟩, ((⟨HZ.out.1.drew, HTB.out.drew⟩ : Has wz.drew lb _ _ ∧ Has wz.drew tb _ _)).2⟩ (fun hHeld1 => ?_)
            clear hK K hHeld
            try simp only [Act.put, List.setIfInBounds_toArray, List.set_cons_zero, List.set_cons_succ]
            refine wpAnyH_ready (rs := [6]) (by kernel_rfl) (by simp) ?_
            refine AllReadyH.cons (o := { dst := some 78, op := Op.buildSlice 34 1 #[(0, Operand.tmp 77)], type := 34, pos := "lex.go:185", after := #[{ on := 5, ground := Ground.data }], guard := none }) rfl (fun K hK => ?_) AllReadyH.nil
            go_simp
            obtain ⟨w3, hw3⟩ : ∃ w3, w3 = (wz.alloc (.cells #[.int .u8 6, .string sx, .int .i64 (a : Int)] 50)).drew := ⟨_, rfl⟩
            have p3 : Has w3 wz.heap.size [.int .u8 6, .string sx, .int .i64 (a : Int)] 50 := by rw [hw3]; exact (Has.new wz _ _).drew
            have x3 : LxE B lb w0 s m ts true p (.slice lv ln lc) vp w3 := by rw [hw3]; exact (HZ.out.alloc _).drew
            have t3 : Has w3 tb [.int .u8 6, .string sx, .int .i64 (a : Int)] 50 := by rw [hw3]; exact (HTB.out.alloc _).drew
            have s3 : w3.heap.size = wz.heap.size + 1 := by rw [hw3]; simp
            rw [← hw3]
            clear hw3
            have P3 := Lib.hid p3
            have X3 := Lib.hid x3
            have T3 := Lib.hid t3
            clear p3 x3 t3
            refine hK.out _ _ ⟨⟨_, X3.out.1⟩, T3.out⟩ (fun hHeld2 => ?_)
            clear hK K hHeld1
            try simp only [Act.put, List.setIfInBounds_toArray, List.set_cons_zero, List.set_cons_succ]
            refine wpAnyH_ready (rs := [7]) (by kernel_rfl) (by simp) ?_
            refine AllReadyH.cons (o := { dst := some 79, op := Op.call { callee := Callee.builtin Builtin.append, args := #[Operand.tmp 76, Operand.tmp 78], argTypes := #[34, 34] }, type := 34, pos := "lex.go:185", after := #[{ on := 4, ground := Ground.data }, { on := 6, ground := Ground.data }], guard := none }) rfl (fun K hK => ?_) AllReadyH.nil
            rw [if_pos (by rfl)]
            refine wp_append_lies _ (.tmp 76) (.tmp 78) 34 rfl B 50 j0 (.agg #[.int .u8 0, .string ByteArray.empty, .int .i64 0]) 3 32 Tryd.underlying34 JI.out JZ0.out JZ1.out JZ2.out rfl (by omega) (.slice lv ln lc) ts.length (tksC ts) rfl X3.out.2.1 ⟨wz.heap.size, 0, none⟩ 1 1 [.int .u8 6, .string sx, .int .i64 (a : Int)] rfl rfl (fun j u hj => ?_) (fun u hu => ?_) (by omega) (by unfold maxLen; omega) (by omega) (by have := X3.out.1.lt; have := X3.out.2.2.2.2; omega) w3.heap.size rfl (fun ga capa w4 h4o h4g h4b h4s => ?_)
            · rw [Addr.add_lit]; exact P3.out.cellAt (by rw [Nat.zero_add]; exact hj)
            · simp only [List.mem_cons, List.not_mem_nil, or_false] at hu; rcases hu with rfl | rfl | rfl <;> rfl
            have hp := Lx.push (t := ⟨6, txt, a⟩) X3.out.1 X3.out.2.1 X3.out.2.2.1 X3.out.2.2.2.1 X3.out.2.2.2.2 h4g (by rw [TK.out] at h4o; exact h4o)
            have HP := Lib.hid hp
            clear hp
            have h4 := has_grown X3.out.1 X3.out.2.1 (by decide) h4g
            have h5 : Has w4 tb [.int .u8 6, .string sx, .int .i64 (a : Int)] 50 := (h4g.block tb T3.out.lt (fun e => HNE.out e.symm)).trans T3.out
            obtain ⟨n4, hn4⟩ : ∃ n4, n4 = ts.length + 1 := ⟨_, rfl⟩
            rw [← hn4] at HP ⊢
            have H4' := Lib.hid h4
            have H5' := Lib.hid h5
            clear h4o h4g h4b hn4
            refine hK.out _ _ ⟨⟨_, h4⟩, h5⟩ (fun hHeld3 => ?_)
            clear hK K hHeld2 h4 h5
            try simp only [Act.put, List.setIfInBounds_toArray, List.set_cons_zero, List.set_cons_succ]
            refine wpAnyH_take (i := 8) (oi := { dst := some 80, op := Op.nilCheck (Operand.tmp 72), type := 0, pos := "lex.go:185", after := #[{ on := 0, ground := Ground.data }, { on := 0, ground := Ground.phase }, { on := 1, ground := Ground.phase }, { on := 2, ground := Ground.phase }, { on := 3, ground := Ground.phase }, { on := 4, ground := Ground.phase }, { on := 5, ground := Ground.phase }, { on := 6, ground := Ground.phase }, { on := 7, ground := Ground.phase }], guard := none }) (v := .pointer (some ⟨lb, 0, none⟩)) rfl (by kernel_rfl) (by kernel_rfl) (by kernel_rfl) (fun _ _ _ h => h)
              (Or.inl ⟨by rfl, by intro w hSw; clear hSw; go_simp⟩) hHeld3 ?_
            try simp only [Act.put, List.setIfInBounds_toArray, List.set_cons_zero, List.set_cons_succ]
            refine wpAnyH_take (i := 9) (oi := { dst := some 81, op := Op.fieldAddr 41 (Operand.tmp 80) 2, type := 0, pos := "lex.go:185", after := #[{ on := 8, ground := Ground.data }, { on := 0, ground := Ground.phase }, { on := 1, ground := Ground.phase }, { on := 2, ground := Ground.phase }, { on := 3, ground := Ground.phase }, { on := 4, ground := Ground.phase }, { on := 5, ground := Ground.phase }, { on := 6, ground := Ground.phase }, { on := 7, ground := Ground.phase }], guard := none }) (v := .pointer (some ⟨lb, 2, none⟩)) rfl (by kernel_rfl) (by kernel_rfl) (by kernel_rfl) (fun _ _ _ h => h)
              (Or.inl ⟨by rfl, by intro w hSw; clear hSw; go_simp⟩) hHeld3 ?_
            try simp only [Act.put, List.setIfInBounds_toArray, List.set_cons_zero, List.set_cons_succ]
            refine wpAnyH_ready (rs := [10]) (by kernel_rfl) (by simp) ?_
            refine AllReadyH.cons (o := { dst := none, op := Op.store 34 (Operand.tmp 81) (Operand.tmp 79), type := 0, pos := "lex.go:185", after := #[{ on := 9, ground := Ground.data }, { on := 7, ground := Ground.data }, { on := 7, ground := Ground.chain }, { on := 0, ground := Ground.phase }, { on := 1, ground := Ground.phase }, { on := 2, ground := Ground.phase }, { on := 3, ground := Ground.phase }, { on := 4, ground := Ground.phase }, { on := 5, ground := Ground.phase }, { on := 6, ground := Ground.phase }, { on := 7, ground := Ground.phase }], guard := none }) rfl (fun K hK => ?_) AllReadyH.nil
            have hcell4 := H4'.out.cellAt (i := 2) rfl
            have hfrz4 := H4'.out.frozen 2
            go_simp
            clear hcell4 hfrz4
            refine hK.out _ _ ⟨⟨_, H4'.out.set 2 _⟩, H5'.out.setOther (a := ⟨lb, 2, none⟩) (fun e => HTL.out e) _⟩ (fun hHeld4 => ?_)
            clear hK K hHeld3
            try simp only [Act.put]
            refine wpAnyH_done (by kernel_rfl) ?_ _
            clear hHeld4
            go_wp2_with fail
            go_ret
            exact nx_ok (by rw [← HLL.out]; exact HOK.out) rfl (by rw [HMA.out]; exact HP.out)
          · skip
            go_simp
            obtain ⟨w3, hw3⟩ : ∃ w3, w3 = (wz.alloc (.cells #[.int .u8 6, .string sx, .int .i64 (a : Int)] 50)).drew := ⟨_, rfl⟩
            have p3 : Has w3 wz.heap.size [.int .u8 6, .string sx, .int .i64 (a : Int)] 50 := by rw [hw3]; exact (Has.new wz _ _).drew
            have x3 : LxE B lb w0 s m ts true p (.slice lv ln lc) vp w3 := by rw [hw3]; exact (HZ.out.alloc _).drew
            have t3 : Has w3 tb [.int .u8 6, .string sx, .int .i64 (a : Int)] 50 := by rw [hw3]; exact (HTB.out.alloc _).drew
            have s3 : w3.heap.size = wz.heap.size + 1 := by rw [hw3]; simp
            rw [← hw3]
            clear hw3
            have P3 := Lib.hid p3
            have X3 := Lib.hid x3
            have T3 := Lib.hid t3
            clear p3 x3 t3
            refine hK.out _ _ ⟨⟨_, X3.out.1⟩, T3.out⟩ (fun hHeld1 => ?_)
            clear hK K hHeld
            try simp only [Act.put, List.setIfInBounds_toArray, List.set_cons_zero, List.set_cons_succ]
            refine wpAnyH_ready (rs := [4]) (by kernel_rfl) (by simp) ?_
            refine AllReadyH.cons (o := { dst := some 76, op := Op.load 34 (Operand.tmp 75), type := 34, pos := "lex.go:185", after := #[{ on := 3, ground := Ground.data }], guard := none }) rfl (fun K hK => ?_) AllReadyH.nil
            have hcl := ((⟨X3.out.1, T3.out⟩ : Has w3 lb _ _ ∧ Has w3 tb _ _)).1.cellAt (i := 2) rfl
            go_simp
            clear hcl
            refine hK.out _ _ ⟨⟨_, ((⟨X3.out.1, T3.out⟩ : Has w3 lb _ _ ∧ Has w3 tb _ _)).1⟩, ((⟨X3.out.1, T3.out⟩ : Has w3 lb _ _ ∧ Has w3 tb _ _)).2⟩ (fun hHeld2 => ?_)
            clear hK K hHeld1
            try simp only [Act.put, List.setIfInBounds_toArray, List.set_cons_zero, List.set_cons_succ]
            refine wpAnyH_ready (rs := [7]) (by kernel_rfl) (by simp) ?_
            refine AllReadyH.cons (o := { dst := some 79, op := Op.call { callee := Callee.builtin Builtin.append, args := #[Operand.tmp 76, Operand.tmp 78], argTypes := #[34, 34] }, type := 34, pos := "lex.go:185", after := #[{ on := 4, ground := Ground.data }, { on := 6, ground := Ground.data }], guard := none }) rfl (fun K hK => ?_) AllReadyH.nil
            rw [if_pos (by rfl)]
            refine wp_append_lies _ (.tmp 76) (.tmp 78) 34 rfl B 50 j0 (.agg #[.int .u8 0, .string ByteArray.empty, .int .i64 0]) 3 32 Tryd.underlying34 JI.out JZ0.out JZ1.out JZ2.out rfl (by omega) (.slice lv ln lc) ts.length (tksC ts) rfl X3.out.2.1 ⟨wz.heap.size, 0, none⟩ 1 1 [.int .u8 6, .string sx, .int .i64 (a : Int)] rfl rfl (fun j u hj => ?_) (fun u hu => ?_) (by omega) (by unfold maxLen; omega) (by omega) (by have := X3.out.1.lt; have := X3.out.2.2.2.2; omega) w3.heap.size rfl (fun ga capa w4 h4o h4g h4b h4s => ?_)
            · rw [Addr.add_lit]; exact P3.out.cellAt (by rw [Nat.zero_add]; exact hj)
            · simp only [List.mem_cons, List.not_mem_nil, or_false] at hu; rcases hu with rfl | rfl | rfl <;> rfl
            have hp := Lx.push (t := ⟨6, txt, a⟩) X3.out.1 X3.out.2.1 X3.out.2.2.1 X3.out.2.2.2.1 X3.out.2.2.2.2 h4g (by rw [TK.out] at h4o; exact h4o)
            have HP := Lib.hid hp
            clear hp
            have h4 := has_grown X3.out.1 X3.out.2.1 (by decide) h4g
            have h5 : Has w4 tb [.int .u8 6, .string sx, .int .i64 (a : Int)] 50 := (h4g.block tb T3.out.lt (fun e => HNE.out e.symm)).trans T3.out
            obtain ⟨n4, hn4⟩ : ∃ n4, n4 = ts.length + 1 := ⟨_, rfl⟩
            rw [← hn4] at HP ⊢
            have H4' := Lib.hid h4
            have H5' := Lib.hid h5
            clear h4o h4g h4b hn4
            refine hK.out _ _ ⟨⟨_, h4⟩, h5⟩ (fun hHeld3 => ?_)
            clear hK K hHeld2 h4 h5
            try simp only [Act.put, List.setIfInBounds_toArray, List.set_cons_zero, List.set_cons_succ]
            refine wpAnyH_take (i := 8) (oi := { dst := some 80, op := Op.nilCheck (Operand.tmp 72), type := 0, pos := "lex.go:185", after := #[{ on := 0, ground := Ground.data }, { on := 0, ground := Ground.phase }, { on := 1, ground := Ground.phase }, { on := 2, ground := Ground.phase }, { on := 3, ground := Ground.phase }, { on := 4, ground := Ground.phase }, { on := 5, ground := Ground.phase }, { on := 6, ground := Ground.phase }, { on := 7, ground := Ground.phase }], guard := none }) (v := .pointer (some ⟨lb, 0, none⟩)) rfl (by kernel_rfl) (by kernel_rfl) (by kernel_rfl) (fun _ _ _ h => h)
              (Or.inl ⟨by rfl, by intro w hSw; clear hSw; go_simp⟩) hHeld3 ?_
            try simp only [Act.put, List.setIfInBounds_toArray, List.set_cons_zero, List.set_cons_succ]
            refine wpAnyH_take (i := 9) (oi := { dst := some 81, op := Op.fieldAddr 41 (Operand.tmp 80) 2, type := 0, pos := "lex.go:185", after := #[{ on := 8, ground := Ground.data }, { on := 0, ground := Ground.phase }, { on := 1, ground := Ground.phase }, { on := 2, ground := Ground.phase }, { on := 3, ground := Ground.phase }, { on := 4, ground := Ground.phase }, { on := 5, ground := Ground.phase }, { on := 6, ground := Ground.phase }, { on := 7, ground := Ground.phase }], guard := none }) (v := .pointer (some ⟨lb, 2, none⟩)) rfl (by kernel_rfl) (by kernel_rfl) (by kernel_rfl) (fun _ _ _ h => h)
              (Or.inl ⟨by rfl, by intro w hSw; clear hSw; go_simp⟩) hHeld3 ?_
            try simp only [Act.put, List.setIfInBounds_toArray, List.set_cons_zero, List.set_cons_succ]
            refine wpAnyH_ready (rs := [10]) (by kernel_rfl) (by simp) ?_
            refine AllReadyH.cons (o := { dst := none, op := Op.store 34 (Operand.tmp 81) (Operand.tmp 79), type := 0, pos := "lex.go:185", after := #[{ on := 9, ground := Ground.data }, { on := 7, ground := Ground.data }, { on := 7, ground := Ground.chain }, { on := 0, ground := Ground.phase }, { on := 1, ground := Ground.phase }, { on := 2, ground := Ground.phase }, { on := 3, ground := Ground.phase }, { on := 4, ground := Ground.phase }, { on := 5, ground := Ground.phase }, { on := 6, ground := Ground.phase }, { on := 7, ground := Ground.phase }], guard := none }) rfl (fun K hK => ?_) AllReadyH.nil
            have hcell4 := H4'.out.cellAt (i := 2) rfl
            have hfrz4 := H4'.out.frozen 2
            go_simp
            clear hcell4 hfrz4
            refine hK.out _ _ ⟨⟨_, H4'.out.set 2 _⟩, H5'.out.setOther (a := ⟨lb, 2, none⟩) (fun e => HTL.out e) _⟩ (fun hHeld4 => ?_)
            clear hK K hHeld3
            try simp only [Act.put]
            refine wpAnyH_done (by kernel_rfl) ?_ _
            clear hHeld4
            go_wp2_with fail
            go_ret
            exact nx_ok (by rw [← HLL.out]; exact HOK.out) rfl (by rw [HMA.out]; exact HP.out)
      · have HOK := Lib.hid (HEND.out (.inr (by unfold stopL; rw [hb1]; rfl)))
        have B1 := Lib.hid hb1
        clear hb1 hlc hll
        have ct1 := HT.out.cellAt (i := 1) rfl
        have ft1 := HT.out.frozen 1
        go_wp2_with fail
        refine (HC1.out _).mono ?_
        rintro e w' ⟨rfl, rfl⟩
        rw [B1.out]
        go_upto_region 15 with fail
        clear ct1 ft1 hcv
        obtain ⟨sx, hsx⟩ : ∃ sx : ByteArray, sx = ⟨txt.toArray⟩ := ⟨_, rfl⟩
        have TK : Hid ([Value.int .u8 6, .string sx, .int .i64 (a : Int)] = tkC ⟨6, txt, a⟩) := Lib.hid (by rw [hsx]; rfl)
        have INFT := Lib.hid (info_tok3 [.int .u8 6, .string sx, .int .i64 (a : Int)] rfl)
        rw [← hsx]
        clear hsx
        obtain ⟨wz, hwz⟩ : ∃ wz, wz = w'.setCell ⟨tb, 1, none⟩ (.string sx) := ⟨_, rfl⟩
        have HZ : Hid (LxE B lb w0 s m ts true p (.slice lv ln lc) vp wz) := Lib.hid (by rw [hwz]; exact HX.out.other HT.out HBT.out HNE.out 1 _)
        have HTB : Hid (Has wz tb [.int .u8 6, .string sx, .int .i64 (a : Int)] 50) := Lib.hid (by rw [hwz]; exact HT.out.set 1 _)
        rw [← hwz]
        clear hwz HX HT HO HPE
        refine wp_region_held_drew (S := fun W => (∃ u, Has W lb [.string s, .int .i64 (m : Int), u, .bool true, vp] 41) ∧ Has W tb [.int .u8 6, .string sx, .int .i64 (a : Int)] 50) (by kernel_rfl) ⟨⟨_, HZ.out.1.drew⟩, HTB.out.drew⟩ (fun hHeld => ?_)
        refine wpAnyH_take (i := 0) (oi := { dst := some 72, op := Op.move (Operand.tmp 0), type := 52, pos := "lex.go:185", after := #[], guard := none }) (v := .pointer (some ⟨lb, 0, none⟩)) rfl (by kernel_rfl) (by kernel_rfl) (by kernel_rfl) (fun _ _ _ h => h)
          (Or.inl ⟨by rfl, by intro w hSw; clear hSw; go_simp⟩) hHeld ?_
        try simp only [Act.put, List.setIfInBounds_toArray, List.set_cons_zero, List.set_cons_succ]
        refine wpAnyH_take (i := 1) (oi := { dst := some 73, op := Op.move (Operand.tmp 0), type := 52, pos := "lex.go:185", after := #[], guard := none }) (v := .pointer (some ⟨lb, 0, none⟩)) rfl (by kernel_rfl) (by kernel_rfl) (by kernel_rfl) (fun _ _ _ h => h)
          (Or.inl ⟨by rfl, by intro w hSw; clear hSw; go_simp⟩) hHeld ?_
        try simp only [Act.put, List.setIfInBounds_toArray, List.set_cons_zero, List.set_cons_succ]
        refine wpAnyH_take (i := 2) (oi := { dst := some 74, op := Op.nilCheck (Operand.tmp 73), type := 0, pos := "lex.go:185", after := #[{ on := 1, ground := Ground.data }], guard := none }) (v := .pointer (some ⟨lb, 0, none⟩)) rfl (by kernel_rfl) (by kernel_rfl) (by kernel_rfl) (fun _ _ _ h => h)
          (Or.inl ⟨by rfl, by intro w hSw; clear hSw; go_simp⟩) hHeld ?_
        try simp only [Act.put, List.setIfInBounds_toArray, List.set_cons_zero, List.set_cons_succ]
        refine wpAnyH_take (i := 3) (oi := { dst := some 75, op := Op.fieldAddr 41 (Operand.tmp 74) 2, type := 0, pos := "lex.go:185", after := #[{ on := 2, ground := Ground.data }], guard := none }) (v := .pointer (some ⟨lb, 2, none⟩)) rfl (by kernel_rfl) (by kernel_rfl) (by kernel_rfl) (fun _ _ _ h => h)
          (Or.inl ⟨by rfl, by intro w hSw; clear hSw; go_simp⟩) hHeld ?_
        try simp only [Act.put, List.setIfInBounds_toArray, List.set_cons_zero, List.set_cons_succ]
        refine wpAnyH_take (i := 5) (oi := { dst := some 77, op := Op.load 50 (Operand.tmp 3), type := 50, pos := "lex.go:185", after := #[], guard := none }) rfl (by kernel_rfl) (by kernel_rfl) (by kernel_rfl) (fun _ _ _ h => h)
          (yieldsIf_load_mid (by rfl) 50 (.tmp 3) rfl tb (0) rfl [.int .u8 6, .string sx, .int .i64 (a : Int)] _ (fun _ h => rangeAt_has h.2) Tryd.underlying50 rfl INFT.out) hHeld ?_
        try simp only [Act.put, List.setIfInBounds_toArray, List.set_cons_zero, List.set_cons_succ]
        refine wpAnyH_ready (rs := [4, 6]) (by kernel_rfl) (by simp) ?_
        refine AllReadyH.cons (o := { dst := some 76, op := Op.load 34 (Operand.tmp 75), type := 34, pos := "lex.go:185", after := #[{ on := 3, ground := Ground.data }], guard := none }) rfl (fun K hK => ?_) (AllReadyH.cons (o := { dst := some 78, op := Op.buildSlice 34 1 #[(0, Operand.tmp 77)], type := 34, pos := "lex.go:185", after := #[{ on := 5, ground := Ground.data }], guard := none }) rfl (fun K hK => ?_) AllReadyH.nil)
        · skip
          have hcl := ((⟨HZ.out.1.drew, HTB.out.drew⟩ : Has wz.drew lb _ _ ∧ Has wz.drew tb _ _)).1.cellAt (i := 2) rfl
          go_simp
          clear hcl
          refine hK.out _ _ ⟨⟨_, ((⟨HZ.out.1.drew, HTB.out.drew⟩ : Has wz.drew lb _ _ ∧ Has wz.drew tb _ _)).1⟩, ((⟨HZ.out.1.drew, HTB.out.drew⟩ : Has wz.drew lb _ _ ∧ Has wz.drew tb _ _)).2⟩ (fun hHeld1 => ?_)
          clear hK K hHeld
          try simp only [Act.put, List.setIfInBounds_toArray, List.set_cons_zero, List.set_cons_succ]
          refine wpAnyH_ready (rs := [6]) (by kernel_rfl) (by simp) ?_
          refine AllReadyH.cons (o := { dst := some 78, op := Op.buildSlice 34 1 #[(0, Operand.tmp 77)], type := 34, pos := "lex.go:185", after := #[{ on := 5, ground := Ground.data }], guard := none }) rfl (fun K hK => ?_) AllReadyH.nil
          go_simp
          obtain ⟨w3, hw3⟩ : ∃ w3, w3 = (wz.alloc (.cells #[.int .u8 6, .string sx, .int .i64 (a : Int)] 50)).drew := ⟨_, rfl⟩
          have p3 : Has w3 wz.heap.size [.int .u8 6, .string sx, .int .i64 (a : Int)] 50 := by rw [hw3]; exact (Has.new wz _ _).drew
          have x3 : LxE B lb w0 s m ts true p (.slice lv ln lc) vp w3 := by rw [hw3]; exact (HZ.out.alloc _).drew
          have t3 : Has w3 tb [.int .u8 6, .string sx, .int .i64 (a : Int)] 50 := by rw [hw3]; exact (HTB.out.alloc _).drew
          have s3 : w3.heap.size = wz.heap.size + 1 := by rw [hw3]; simp
          rw [← hw3]
          clear hw3
          have P3 := Lib.hid p3
          have X3 := Lib.hid x3
          have T3 := Lib.hid t3
          clear p3 x3 t3
          refine hK.out _ _ ⟨⟨_, X3.out.1⟩, T3.out⟩ (fun hHeld2 => ?_)
          clear hK K hHeld1
          try simp only [Act.put, List.setIfInBounds_toArray, List.set_cons_zero, List.set_cons_succ]
          refine wpAnyH_ready (rs := [7]) (by kernel_rfl) (by simp) ?_
          refine AllReadyH.cons (o := { dst := some 79, op := Op.call { callee := Callee.builtin Builtin.append, args := #[Operand.tmp 76, Operand.tmp 78], argTypes := #[34, 34] }, type := 34, pos := "lex.go:185", after := #[{ on := 4, ground := Ground.data }, { on := 6, ground := Ground.data }], guard := none }) rfl (fun K hK => ?_) AllReadyH.nil
          rw [if_pos (by rfl)]
          refine wp_append_lies _ (.tmp 76) (.tmp 78) 34 rfl B 50 j0 (.agg #[.int .u8 0, .string ByteArray.empty, .int .i64 0]) 3 32 Tryd.underlying34 JI.out JZ0.out JZ1.out JZ2.out rfl (by omega) (.slice lv ln lc) ts.length (tksC ts) rfl X3.out.2.1 ⟨wz.heap.size, 0, none⟩ 1 1 [.int .u8 6, .string sx, .int .i64 (a : Int)] rfl rfl (fun j u hj => ?_) (fun u hu => ?_) (by omega) (by unfold maxLen; omega) (by omega) (by have := X3.out.1.lt; have := X3.out.2.2.2.2; omega) w3.heap.size rfl (fun ga capa w4 h4o h4g h4b h4s => ?_)
          · rw [Addr.add_lit]; exact P3.out.cellAt (by rw [Nat.zero_add]; exact hj)
          · simp only [List.mem_cons, List.not_mem_nil, or_false] at hu; rcases hu with rfl | rfl | rfl <;> rfl
          have hp := Lx.push (t := ⟨6, txt, a⟩) X3.out.1 X3.out.2.1 X3.out.2.2.1 X3.out.2.2.2.1 X3.out.2.2.2.2 h4g (by rw [TK.out] at h4o; exact h4o)
          have HP := Lib.hid hp
          clear hp
          have h4 := has_grown X3.out.1 X3.out.2.1 (by decide) h4g
          have h5 : Has w4 tb [.int .u8 6, .string sx, .int .i64 (a : Int)] 50 := (h4g.block tb T3.out.lt (fun e => HNE.out e.symm)).trans T3.out
          obtain ⟨n4, hn4⟩ : ∃ n4, n4 = ts.length + 1 := ⟨_, rfl⟩
          rw [← hn4] at HP ⊢
          have H4' := Lib.hid h4
          have H5' := Lib.hid h5
          clear h4o h4g h4b hn4
          refine hK.out _ _ ⟨⟨_, h4⟩, h5⟩ (fun hHeld3 => ?_)
          clear hK K hHeld2 h4 h5
          try simp only [Act.put, List.setIfInBounds_toArray, List.set_cons_zero, List.set_cons_succ]
          refine wpAnyH_take (i := 8) (oi := { dst := some 80, op := Op.nilCheck (Operand.tmp 72), type := 0, pos := "lex.go:185", after := #[{ on := 0, ground := Ground.data }, { on := 0, ground := Ground.phase }, { on := 1, ground := Ground.phase }, { on := 2, ground := Ground.phase }, { on := 3, ground := Ground.phase }, { on := 4, ground := Ground.phase }, { on := 5, ground := Ground.phase }, { on := 6, ground := Ground.phase }, { on := 7, ground := Ground.phase }], guard := none }) (v := .pointer (some ⟨lb, 0, none⟩)) rfl (by kernel_rfl) (by kernel_rfl) (by kernel_rfl) (fun _ _ _ h => h)
            (Or.inl ⟨by rfl, by intro w hSw; clear hSw; go_simp⟩) hHeld3 ?_
          try simp only [Act.put, List.setIfInBounds_toArray, List.set_cons_zero, List.set_cons_succ]
          refine wpAnyH_take (i := 9) (oi := { dst := some 81, op := Op.fieldAddr 41 (Operand.tmp 80) 2, type := 0, pos := "lex.go:185", after := #[{ on := 8, ground := Ground.data }, { on := 0, ground := Ground.phase }, { on := 1, ground := Ground.phase }, { on := 2, ground := Ground.phase }, { on := 3, ground := Ground.phase }, { on := 4, ground := Ground.phase }, { on := 5, ground := Ground.phase }, { on := 6, ground := Ground.phase }, { on := 7, ground := Ground.phase }], guard := none }) (v := .pointer (some ⟨lb, 2, none⟩)) rfl (by kernel_rfl) (by kernel_rfl) (by kernel_rfl) (fun _ _ _ h => h)
            (Or.inl ⟨by rfl, by intro w hSw; clear hSw; go_simp⟩) hHeld3 ?_
          try simp only [Act.put, List.setIfInBounds_toArray, List.set_cons_zero, List.set_cons_succ]
          refine wpAnyH_ready (rs := [10]) (by kernel_rfl) (by simp) ?_
          refine AllReadyH.cons (o := { dst := none, op := Op.store 34 (Operand.tmp 81) (Operand.tmp 79), type := 0, pos := "lex.go:185", after := #[{ on := 9, ground := Ground.data }, { on := 7, ground := Ground.data }, { on := 7, ground := Ground.chain }, { on := 0, ground := Ground.phase }, { on := 1, ground := Ground.phase }, { on := 2, ground := Ground.phase }, { on := 3, ground := Ground.phase }, { on := 4, ground := Ground.phase }, { on := 5, ground := Ground.phase }, { on := 6, ground := Ground.phase }, { on := 7, ground := Ground.phase }], guard := none }) rfl (fun K hK => ?_) AllReadyH.nil
          have hcell4 := H4'.out.cellAt (i := 2) rfl
          have hfrz4 := H4'.out.frozen 2
          go_simp
          clear hcell4 hfrz4
          refine hK.out _ _ ⟨⟨_, H4'.out.set 2 _⟩, H5'.out.setOther (a := ⟨lb, 2, none⟩) (fun e => HTL.out e) _⟩ (fun hHeld4 => ?_)
          clear hK K hHeld3
          try simp only [Act.put]
          refine wpAnyH_done (by kernel_rfl) ?_ _
          clear hHeld4
          go_wp2_with fail
          go_ret
          exact nx_ok (by rw [← HLL.out]; exact HOK.out) rfl (by rw [HMA.out]; exact HP.out)
        · skip
          go_simp
          obtain ⟨w3, hw3⟩ : ∃ w3, w3 = (wz.alloc (.cells #[.int .u8 6, .string sx, .int .i64 (a : Int)] 50)).drew := ⟨_, rfl⟩
          have p3 : Has w3 wz.heap.size [.int .u8 6, .string sx, .int .i64 (a : Int)] 50 := by rw [hw3]; exact (Has.new wz _ _).drew
          have x3 : LxE B lb w0 s m ts true p (.slice lv ln lc) vp w3 := by rw [hw3]; exact (HZ.out.alloc _).drew
          have t3 : Has w3 tb [.int .u8 6, .string sx, .int .i64 (a : Int)] 50 := by rw [hw3]; exact (HTB.out.alloc _).drew
          have s3 : w3.heap.size = wz.heap.size + 1 := by rw [hw3]; simp
          rw [← hw3]
          clear hw3
          have P3 := Lib.hid p3
          have X3 := Lib.hid x3
          have T3 := Lib.hid t3
          clear p3 x3 t3
          refine hK.out _ _ ⟨⟨_, X3.out.1⟩, T3.out⟩ (fun hHeld1 => ?_)
          clear hK K hHeld
          try simp only [Act.put, List.setIfInBounds_toArray, List.set_cons_zero, List.set_cons_succ]
          refine wpAnyH_ready (rs := [4]) (by kernel_rfl) (by simp) ?_
          refine AllReadyH.cons (o := { dst := some 76, op := Op.load 34 (Operand.tmp 75), type := 34, pos := "lex.go:185", after := #[{ on := 3, ground := Ground.data }], guard := none }) rfl (fun K hK => ?_) AllReadyH.nil
          have hcl := ((⟨X3.out.1, T3.out⟩ : Has w3 lb _ _ ∧ Has w3 tb _ _)).1.cellAt (i := 2) rfl
          go_simp
          clear hcl
          refine hK.out _ _ ⟨⟨_, ((⟨X3.out.1, T3.out⟩ : Has w3 lb _ _ ∧ Has w3 tb _ _)).1⟩, ((⟨X3.out.1, T3.out⟩ : Has w3 lb _ _ ∧ Has w3 tb _ _)).2⟩ (fun hHeld2 => ?_)
          clear hK K hHeld1
          try simp only [Act.put, List.setIfInBounds_toArray, List.set_cons_zero, List.set_cons_succ]
          refine wpAnyH_ready (rs := [7]) (by kernel_rfl) (by simp) ?_
          refine AllReadyH.cons (o := { dst := some 79, op := Op.call { callee := Callee.builtin Builtin.append, args := #[Operand.tmp 76, Operand.tmp 78], argTypes := #[34, 34] }, type := 34, pos := "lex.go:185", after := #[{ on := 4, ground := Ground.data }, { on := 6, ground := Ground.data }], guard := none }) rfl (fun K hK => ?_) AllReadyH.nil
          rw [if_pos (by rfl)]
          refine wp_append_lies _ (.tmp 76) (.tmp 78) 34 rfl B 50 j0 (.agg #[.int .u8 0, .string ByteArray.empty, .int .i64 0]) 3 32 Tryd.underlying34 JI.out JZ0.out JZ1.out JZ2.out rfl (by omega) (.slice lv ln lc) ts.length (tksC ts) rfl X3.out.2.1 ⟨wz.heap.size, 0, none⟩ 1 1 [.int .u8 6, .string sx, .int .i64 (a : Int)] rfl rfl (fun j u hj => ?_) (fun u hu => ?_) (by omega) (by unfold maxLen; omega) (by omega) (by have := X3.out.1.lt; have := X3.out.2.2.2.2; omega) w3.heap.size rfl (fun ga capa w4 h4o h4g h4b h4s => ?_)
          · rw [Addr.add_lit]; exact P3.out.cellAt (by rw [Nat.zero_add]; exact hj)
          · simp only [List.mem_cons, List.not_mem_nil, or_false] at hu; rcases hu with rfl | rfl | rfl <;> rfl
          have hp := Lx.push (t := ⟨6, txt, a⟩) X3.out.1 X3.out.2.1 X3.out.2.2.1 X3.out.2.2.2.1 X3.out.2.2.2.2 h4g (by rw [TK.out] at h4o; exact h4o)
          have HP := Lib.hid hp
          clear hp
          have h4 := has_grown X3.out.1 X3.out.2.1 (by decide) h4g
          have h5 : Has w4 tb [.int .u8 6, .string sx, .int .i64 (a : Int)] 50 := (h4g.block tb T3.out.lt (fun e => HNE.out e.symm)).trans T3.out
          obtain ⟨n4, hn4⟩ : ∃ n4, n4 = ts.length + 1 := ⟨_, rfl⟩
          rw [← hn4] at HP ⊢
          have H4' := Lib.hid h4
          have H5' := Lib.hid h5
          clear h4o h4g h4b hn4
          refine hK.out _ _ ⟨⟨_, h4⟩, h5⟩ (fun hHeld3 => ?_)
          clear hK K hHeld2 h4 h5
          try simp only [Act.put, List.setIfInBounds_toArray, List.set_cons_zero, List.set_cons_succ]
          refine wpAnyH_take (i := 8) (oi := { dst := some 80, op := Op.nilCheck (Operand.tmp 72), type := 0, pos := "lex.go:185", after := #[{ on := 0, ground := Ground.data }, { on := 0, ground := Ground.phase }, { on := 1, ground := Ground.phase }, { on := 2, ground := Ground.phase }, { on := 3, ground := Ground.phase }, { on := 4, ground := Ground.phase }, { on := 5, ground := Ground.phase }, { on := 6, ground := Ground.phase }, { on := 7, ground := Ground.phase }], guard := none }) (v := .pointer (some ⟨lb, 0, none⟩)) rfl (by kernel_rfl) (by kernel_rfl) (by kernel_rfl) (fun _ _ _ h => h)
            (Or.inl ⟨by rfl, by intro w hSw; clear hSw; go_simp⟩) hHeld3 ?_
          try simp only [Act.put, List.setIfInBounds_toArray, List.set_cons_zero, List.set_cons_succ]
          refine wpAnyH_take (i := 9) (oi := { dst := some 81, op := Op.fieldAddr 41 (Operand.tmp 80) 2, type := 0, pos := "lex.go:185", after := #[{ on := 8, ground := Ground.data }, { on := 0, ground := Ground.phase }, { on := 1, ground := Ground.phase }, { on := 2, ground := Ground.phase }, { on := 3, ground := Ground.phase }, { on := 4, ground := Ground.phase }, { on := 5, ground := Ground.phase }, { on := 6, ground := Ground.phase }, { on := 7, ground := Ground.phase }], guard := none }) (v := .pointer (some ⟨lb, 2, none⟩)) rfl (by kernel_rfl) (by kernel_rfl) (by kernel_rfl) (fun _ _ _ h => h)
            (Or.inl ⟨by rfl, by intro w hSw; clear hSw; go_simp⟩) hHeld3 ?_
          try simp only [Act.put, List.setIfInBounds_toArray, List.set_cons_zero, List.set_cons_succ]
          refine wpAnyH_ready (rs := [10]) (by kernel_rfl) (by simp) ?_
          refine AllReadyH.cons (o := { dst := none, op := Op.store 34 (Operand.tmp 81) (Operand.tmp 79), type := 0, pos := "lex.go:185", after := #[{ on := 9, ground := Ground.data }, { on := 7, ground := Ground.data }, { on := 7, ground := Ground.chain }, { on := 0, ground := Ground.phase }, { on := 1, ground := Ground.phase }, { on := 2, ground := Ground.phase }, { on := 3, ground := Ground.phase }, { on := 4, ground := Ground.phase }, { on := 5, ground := Ground.phase }, { on := 6, ground := Ground.phase }, { on := 7, ground := Ground.phase }], guard := none }) rfl (fun K hK => ?_) AllReadyH.nil
          have hcell4 := H4'.out.cellAt (i := 2) rfl
          have hfrz4 := H4'.out.frozen 2
          go_simp
          clear hcell4 hfrz4
          refine hK.out _ _ ⟨⟨_, H4'.out.set 2 _⟩, H5'.out.setOther (a := ⟨lb, 2, none⟩) (fun e => HTL.out e) _⟩ (fun hHeld4 => ?_)
          clear hK K hHeld3
          try simp only [Act.put]
          refine wpAnyH_done (by kernel_rfl) ?_ _
          clear hHeld4
          go_wp2_with fail
          go_ret
          exact nx_ok (by rw [← HLL.out]; exact HOK.out) rfl (by rw [HMA.out]; exact HP.out)

end Go.Proofs.YtnajafnbickiiaaDoor
