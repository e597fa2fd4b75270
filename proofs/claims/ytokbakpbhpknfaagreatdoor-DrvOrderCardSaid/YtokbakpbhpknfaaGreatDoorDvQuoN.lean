/-
  A text in quotes, written. Condition: it has at most 10^9 bytes.
-/
import Derived.Test.YtokbakpbhpknfaaGreatDoorDvLstN
import Derived.Lib.SlBytesConst
import Derived.ArgAppend
namespace Go.Proofs.YtokbakpbhpknfaaGreatDoor
open Go.RowKit
set_option linter.unusedVariables false

theorem meant_index (c : UInt8) : (dq1 c = [c] ∧ Lib.indexByte [92, 34, 10, 9] c = -1) ∨ (dq1 c = [92, 92] ∧ Lib.indexByte [92, 34, 10, 9] c = 0) ∨ (dq1 c = [92, 34] ∧ Lib.indexByte [92, 34, 10, 9] c = 1) ∨
    (dq1 c = [92, 110] ∧ Lib.indexByte [92, 34, 10, 9] c = 2) ∨ (dq1 c = [92, 116] ∧ Lib.indexByte [92, 34, 10, 9] c = 3) := by
  have : ∀ n : Fin 256, (dq1 (UInt8.ofNat n.val) = [(UInt8.ofNat n.val)] ∧ Lib.indexByte [92, 34, 10, 9] (UInt8.ofNat n.val) = -1) ∨ (dq1 (UInt8.ofNat n.val) = [92, 92] ∧ Lib.indexByte [92, 34, 10, 9] (UInt8.ofNat n.val) = 0) ∨ (dq1 (UInt8.ofNat n.val) = [92, 34] ∧ Lib.indexByte [92, 34, 10, 9] (UInt8.ofNat n.val) = 1) ∨
    (dq1 (UInt8.ofNat n.val) = [92, 110] ∧ Lib.indexByte [92, 34, 10, 9] (UInt8.ofNat n.val) = 2) ∨ (dq1 (UInt8.ofNat n.val) = [92, 116] ∧ Lib.indexByte [92, 34, 10, 9] (UInt8.ofNat n.val) = 3) := by decide +kernel
  have h := this ⟨c.toNat, c.toNat_lt⟩
  simpa using h
theorem meant_any (d : UInt8) (w : World) : Calls Tryz.prog 79 #[.string ⟨#[92, 34, 10, 9]⟩, .int .u8 (d.toNat : Int)] w fun e w' => e = .returned (.int .i64 (Lib.indexByte [92, 34, 10, 9] d)) ∧ w' = w := by
  have h := Tryz.strings_IndexByte ⟨#[92, 34, 10, 9]⟩ (d.toNat : Int) w
  rw [show ((d.toNat : Int)).toNat.toUInt8 = d by simp] at h
  exact h
theorem owns_lit (w : World) (B : Nat) (cs : List Value) (e : TypeId) (n : Nat) (hb : B ≤ w.heap.size) (hm : n ≤ maxLen) (hs : cs.length = n) :
    (w.alloc (.cells cs.toArray e)).ownsRow B e 1 (.slice (some ⟨w.heap.size, 0, none⟩) n n) n cs :=
  ⟨by simpa using hs, .inr ⟨w.heap.size, n, cs.toArray, rfl, hb, heap_alloc_new w _, Nat.le_refl _, hm, by simpa using hs, by simp [← hs]⟩⟩
/-- What is written of a text's beginning. -/
def qM (s : ByteArray) (i : Nat) : List UInt8 := 34 :: dqL (s.data.toList.take i)
theorem qM_step (s : ByteArray) (i : Nat) (h : i < s.size) : qM s (i + 1) = qM s i ++ dq1 (s.data.toList.getD i 0) := by
  have hl : i < s.data.toList.length := by simpa using h
  unfold qM
  rw [List.take_succ_eq_append_getElem hl, dqL_snoc, List.getD_eq_getElem?_getD, List.getElem?_eq_getElem hl]; rfl
theorem qM_len (s : ByteArray) (i : Nat) (h : i ≤ s.size) : (qM s i).length ≤ 2 * s.size + 1 := by
  have := dqL_len (s.data.toList.take i)
  unfold qM; simp only [List.length_cons, List.length_take] at *; omega
theorem qM_end (s : ByteArray) : (⟨(qM s s.size).toArray⟩ : ByteArray) ++ ⟨#[34]⟩ = bs (dquote s.data.toList) := by
  have h : (qM s s.size) = 34 :: dqL s.data.toList := by unfold qM; rw [List.take_of_length_le (by simp)]
  rw [h]
  apply ByteArray.ext; apply Array.toList_inj.1
  simp [bs, dquote]

theorem owns_low {w : World} {B B' : Nat} {e : TypeId} {size : Nat} {v : Value} {n : Nat} {xs : List Value} (h : w.ownsRow B e size v n xs) (hB : B' ≤ B) : w.ownsRow B' e size v n xs := by
  refine ⟨h.1, ?_⟩
  rcases h.2 with hn | ⟨g, cap, cur, rfl, hg, rest⟩
  · exact .inl hn
  · exact .inr ⟨g, cap, cur, rfl, by omega, rest⟩
/-- A row of the call's own, or a full one that bears a mark behind its end (bytes of a constant). -/
def RowX (w : World) (B : Nat) (v : Value) (n : Nat) (l : List UInt8) : Prop :=
  w.ownsRow B 5 1 v n (l.map bv) ∨ ∃ g, v = .slice (some ⟨g, 0, none⟩) n n ∧ l.length = n ∧ B ≤ g ∧ g < w.heap.size ∧ n ≤ maxLen ∧ ∀ j u, (l.map bv)[j]? = some u → w.cell? ⟨g, j, none⟩ = some u
theorem RowX.alloc {w : World} {B : Nat} {v : Value} {n : Nat} {l : List UInt8} (h : RowX w B v n l) (o : Obj) : RowX (w.alloc o) B v n l := by
  rcases h with h | ⟨g, hv, hl, hB, hlt, hm, hc⟩
  · exact .inl (h.alloc o)
  · exact .inr ⟨g, hv, hl, hB, by simp; omega, hm, fun j u hj => (((Below.refl w.heap.size w).alloc (Nat.le_refl _) o).cell (p := ⟨g, j, none⟩) hlt).trans (hc j u hj)⟩
theorem RowX.form {w : World} {B : Nat} {v : Value} {n : Nat} {l : List UInt8} (h : RowX w B v n l) : ∃ a c, v = .slice a n c := by
  rcases h with h | ⟨g, hv, _⟩
  · exact row_form h
  · exact ⟨_, _, hv⟩
theorem RowX.str {w : World} {B : Nat} {a : Option Addr} {n c : Nat} {l : List UInt8} (h : RowX w B (.slice a n c) n l) : (convert 45 9 (.slice a n c)).run Tryz.prog w = .ok (.string ⟨l.toArray⟩) w := by
  rcases h with h | ⟨g, hv, hl, hB, hlt, hm, hc⟩
  · exact convert_own h
  · simp only [Value.slice.injEq] at hv
    obtain ⟨rfl, -, rfl⟩ := hv
    subst hl
    refine run_convert_bytes_back (P := Tryz.prog) w 45 9 5 ⟨g, 0, none⟩ _ l Tryz.underlying45 Tryz.underlying5 Tryz.underlying9 (fun j hj => ?_)
    rw [Addr.add_mid, Nat.zero_add, hc j _ (by rw [List.getElem?_map, List.getElem?_eq_getElem hj]; rfl)]
    rfl
theorem append_rowx {w : World} {ops : Array Oper} {rest : List Oper} {o : Oper} {a : Act} {Q : Exit → Act → World → Prop} (hgd : o.guard = none) (s x : Operand)
    (ho : o.op = .call { callee := .builtin .append, args := #[s, x], argTypes := #[45, 45] })
    (B : Nat) (i : TypeInfo) (hi : Tryz.prog.info? 5 = some i) (hz : i.zero = some (.int .u8 0)) (hsize : i.size = 1) (hby : i.bytes = 1)
    (v : Value) (n : Nat) (l : List UInt8) (hs : a.eval s = v) (hrow : RowX w B v n l)
    (g : Nat) (m c : Nat) (k : List UInt8) (hx : a.eval x = .slice (some ⟨g, 0, none⟩) m c) (hk : k.length = m) (hkc : ∀ j u, (k.map bv)[j]? = some u → w.cell? ⟨g, j, none⟩ = some u) (hm : 0 < m)
    (hbytes : n + m ≤ 140737488355328) (hB : B ≤ w.heap.size)
    (h : ∀ v' w', w'.ownsRow B 5 1 v' (n + m) ((l ++ k).map bv) → Below B w w' → wpList Tryz.prog ops Q rest (a.put o.dst v') w') : wpList Tryz.prog ops Q (o :: rest) a w := by
  have hone : ∀ u ∈ k.map bv, u.oneCell' = true := by
    intro u hu
    obtain ⟨b, _, rfl⟩ := List.mem_map.1 hu
    rfl
  have hadd : ∀ j, (⟨g, 0, none⟩ : Addr).add j = ⟨g, j, none⟩ := fun j => by rw [Addr.add_mid, Nat.zero_add]
  rcases hrow with hown | ⟨g', rfl, hl, hB', hlt, hmx, hc⟩
  · refine wpList_append_own w hgd s x 45 ho B 5 i _ 1 1 Tryz.underlying45 hi hz hsize hby rfl (by omega) v n (l.map bv) hs hown ⟨g, 0, none⟩ m c (k.map bv) hx (by simp [hk]) (fun j u hj => by rw [hadd]; exact hkc j u hj) hone (by unfold maxLen; omega) (by omega) hB ?_
    intro v' w' h1 h2 _
    exact h v' w' (by rw [List.map_append]; exact h1) ((Below.refl _ _).grown h2 hB (fun k hk => (hown.lt k hk).1))
  · refine wpList_append_grows w hgd s x 45 ho 5 i _ 1 1 Tryz.underlying45 hi hz hsize hby rfl (by omega) (some ⟨g', 0, none⟩) n n (l.map bv) hs (fun e => by cases e) (by simp [hl]) (fun b hb j u hj => by cases hb; rw [Addr.add_mid, Nat.zero_add]; exact hc j u hj) ⟨g, 0, none⟩ m c (k.map bv) hx (by simp [hk]) (fun j u hj => by rw [hadd]; exact hkc j u hj) hone (by omega) (by unfold maxLen; omega) (by omega) ?_
    intro v' w' h1 h2
    refine h v' w' (by rw [List.map_append]; exact owns_low h1 hB) ((Below.refl _ _).grown h2 hB (fun k hk => by cases hk))
set_option maxRecDepth 100000 in
set_option maxHeartbeats 16000000 in
theorem quoted_any (s : ByteArray) (w : World) (h9 : s.size ≤ 1000000000) :
    Calls Tryz.prog 47 #[.string s] w fun e w' => e = .returned (.string (bs (dquote s.data.toList))) ∧ Below w.heap.size w w' := by
  obtain ⟨i0, hi, hz0, hz1, hz2⟩ := info_u8_parts
  have HI := Lib.hid hi
  have HZ0 := Lib.hid hz0
  have HZ1 := Lib.hid hz1
  have HZ2 := Lib.hid hz2
  clear hi hz0 hz1 hz2
  obtain ⟨B, hB⟩ : ∃ B, B = w.heap.size := ⟨_, rfl⟩
  rw [← hB]
  have HB := Lib.hid hB
  clear hB
  go_enter Tryz.func47, Tryz.ntmps47
  have hcs := Lib.run_convert_bytes_const (P := Tryz.prog) w 45 5 #[.int .u8 34] 1 1 Tryz.underlying45 Tryz.underlying5
  go_wp2_with fail
  clear hcs
  go_loopg [3, 4, 5, 10] s.size (fun gk v3 v4 v5 v10 wr => ∃ i : Nat, gk = s.size - i ∧ i ≤ s.size ∧ v10 = .int .i64 (i : Int) ∧ RowX wr B v3 (qM s i).length (qM s i) ∧ Below B w wr)
  case atStart => exact ⟨0, rfl, Nat.zero_le _, rfl, .inr ⟨w.heap.size, rfl, rfl, by have := HB.out; omega, by simp, by show 1 ≤ maxLen; unfold maxLen; omega, fun j u hj => by rw [World.cell?_alloc_mark]; have hj' : ([Value.int .u8 34] : List Value)[j]? = some u := hj; simpa using hj'⟩, (Below.refl _ _).alloc (by have := HB.out; omega) _⟩
  case round =>
    obtain ⟨i, rfl, his, rfl, how, hb⟩ := hrel
    obtain ⟨va, vc, rfl⟩ := RowX.form how
    have HO := Lib.hid how
    have HBB := Lib.hid hb
    have hBs : B ≤ wr.heap.size := by have := hb.size; have := HB.out; omega
    have hM := qM_len s i his
    obtain ⟨m, hm⟩ : ∃ m, m = (qM s i).length := ⟨_, rfl⟩
    rw [← hm] at HO hM ⊢
    have HM := Lib.hid hm
    have hcv := HO.out.str
    clear how hb hm
    by_cases hlt : i < s.size
    · have hg : s[i] = s.data.toList.getD i 0 := str_get s i hlt
      obtain ⟨c, hc⟩ : ∃ c, c = s.data.toList.getD i 0 := ⟨_, rfl⟩
      have HQ := Lib.hid (qM_step s i hlt)
      rw [← hc] at hg HQ
      clear hcv hc
      have hix := meant_index c
      have hlt' : (i : Int) < (s.size : Int) := by omega
      go_wp2_with fail
      refine (meant_any c _).mono ?_
      rintro e w1 ⟨rfl, rfl⟩
      rcases hix with ⟨hd, hi⟩ | ⟨hd, hi⟩ | ⟨hd, hi⟩ | ⟨hd, hi⟩ | ⟨hd, hi⟩
      · have HD := Lib.hid hd
        rw [hi]
        clear hd hi
        go_upto_region 8 with fail
        go_wp2_with (at_builtin; go_must (refine append_rowx rfl (.tmp 24) (.tmp 28) rfl B i0 HI.out HZ0.out HZ1.out HZ2.out _ m (qM s i) rfl (HO.out.alloc _) w1.heap.size 1 1 [c] rfl rfl ?a1 (by omega) (by omega) ?a6 ?a7))
        case a1 => intro j u hj; exact (Has.new w1 [.int .u8 (c.toNat : Int)] _).cellAt hj
        case a6 => simp; omega
        intro v5 w5 hown3 hb3
        have HO5 : Hid (RowX w5 B v5 (qM s (i + 1)).length (qM s (i + 1))) := Lib.hid (.inl (by
          rw [HQ.out, HD.out, List.length_append, List.map_append, ← HM.out]; exact hown3))
        have B5 : Hid (Below B w w5) := Lib.hid ((HBB.out.alloc hBs _).trans hb3)
        clear hown3 hb3
        have hwr : IntKind.i64.wrap ((i : Int) + 1) = ((i + 1 : Nat) : Int) := by rw [IntKind.wrap_i64]; omega
        go_wp2_with fail
        go_roundg (s.size - (i + 1))
        case rel => exact ⟨i + 1, rfl, by omega, rfl, HO5.out, B5.out⟩
        case measure => omega
      · have HD := Lib.hid hd
        rw [hi]
        clear hd hi
        go_upto_region 7 with fail
        go_wp2_with (at_builtin; go_must (refine append_rowx rfl (.tmp 19) (.tmp 22) rfl B i0 HI.out HZ0.out HZ1.out HZ2.out _ m (qM s i) rfl (HO.out.alloc _) w1.heap.size 2 2 [92, 92] rfl rfl ?b1 (by omega) (by omega) ?b6 ?b7))
        case b1 => intro j u hj; exact (Has.new w1 [.int .u8 92, .int .u8 92] _).cellAt hj
        case b6 => simp; omega
        intro v5 w5 hown3 hb3
        have HO5 : Hid (RowX w5 B v5 (qM s (i + 1)).length (qM s (i + 1))) := Lib.hid (.inl (by
          rw [HQ.out, HD.out, List.length_append, List.map_append, ← HM.out]; exact hown3))
        have B5 : Hid (Below B w w5) := Lib.hid ((HBB.out.alloc hBs _).trans hb3)
        clear hown3 hb3
        have hwr : IntKind.i64.wrap ((i : Int) + 1) = ((i + 1 : Nat) : Int) := by rw [IntKind.wrap_i64]; omega
        go_wp2_with fail
        go_roundg (s.size - (i + 1))
        case rel => exact ⟨i + 1, rfl, by omega, rfl, HO5.out, B5.out⟩
        case measure => omega
      · have HD := Lib.hid hd
        rw [hi]
        clear hd hi
        go_upto_region 7 with fail
        go_wp2_with (at_builtin; go_must (refine append_rowx rfl (.tmp 19) (.tmp 22) rfl B i0 HI.out HZ0.out HZ1.out HZ2.out _ m (qM s i) rfl (HO.out.alloc _) w1.heap.size 2 2 [92, 34] rfl rfl ?c1 (by omega) (by omega) ?c6 ?c7))
        case c1 => intro j u hj; exact (Has.new w1 [.int .u8 92, .int .u8 34] _).cellAt hj
        case c6 => simp; omega
        intro v5 w5 hown3 hb3
        have HO5 : Hid (RowX w5 B v5 (qM s (i + 1)).length (qM s (i + 1))) := Lib.hid (.inl (by
          rw [HQ.out, HD.out, List.length_append, List.map_append, ← HM.out]; exact hown3))
        have B5 : Hid (Below B w w5) := Lib.hid ((HBB.out.alloc hBs _).trans hb3)
        clear hown3 hb3
        have hwr : IntKind.i64.wrap ((i : Int) + 1) = ((i + 1 : Nat) : Int) := by rw [IntKind.wrap_i64]; omega
        go_wp2_with fail
        go_roundg (s.size - (i + 1))
        case rel => exact ⟨i + 1, rfl, by omega, rfl, HO5.out, B5.out⟩
        case measure => omega
      · have HD := Lib.hid hd
        rw [hi]
        clear hd hi
        go_upto_region 7 with fail
        go_wp2_with (at_builtin; go_must (refine append_rowx rfl (.tmp 19) (.tmp 22) rfl B i0 HI.out HZ0.out HZ1.out HZ2.out _ m (qM s i) rfl (HO.out.alloc _) w1.heap.size 2 2 [92, 110] rfl rfl ?d1 (by omega) (by omega) ?d6 ?d7))
        case d1 => intro j u hj; exact (Has.new w1 [.int .u8 92, .int .u8 110] _).cellAt hj
        case d6 => simp; omega
        intro v5 w5 hown3 hb3
        have HO5 : Hid (RowX w5 B v5 (qM s (i + 1)).length (qM s (i + 1))) := Lib.hid (.inl (by
          rw [HQ.out, HD.out, List.length_append, List.map_append, ← HM.out]; exact hown3))
        have B5 : Hid (Below B w w5) := Lib.hid ((HBB.out.alloc hBs _).trans hb3)
        clear hown3 hb3
        have hwr : IntKind.i64.wrap ((i : Int) + 1) = ((i + 1 : Nat) : Int) := by rw [IntKind.wrap_i64]; omega
        go_wp2_with fail
        go_roundg (s.size - (i + 1))
        case rel => exact ⟨i + 1, rfl, by omega, rfl, HO5.out, B5.out⟩
        case measure => omega
      · have HD := Lib.hid hd
        rw [hi]
        clear hd hi
        go_upto_region 7 with fail
        go_wp2_with (at_builtin; go_must (refine append_rowx rfl (.tmp 19) (.tmp 22) rfl B i0 HI.out HZ0.out HZ1.out HZ2.out _ m (qM s i) rfl (HO.out.alloc _) w1.heap.size 2 2 [92, 116] rfl rfl ?e1 (by omega) (by omega) ?e6 ?e7))
        case e1 => intro j u hj; exact (Has.new w1 [.int .u8 92, .int .u8 116] _).cellAt hj
        case e6 => simp; omega
        intro v5 w5 hown3 hb3
        have HO5 : Hid (RowX w5 B v5 (qM s (i + 1)).length (qM s (i + 1))) := Lib.hid (.inl (by
          rw [HQ.out, HD.out, List.length_append, List.map_append, ← HM.out]; exact hown3))
        have B5 : Hid (Below B w w5) := Lib.hid ((HBB.out.alloc hBs _).trans hb3)
        clear hown3 hb3
        have hwr : IntKind.i64.wrap ((i : Int) + 1) = ((i + 1 : Nat) : Int) := by rw [IntKind.wrap_i64]; omega
        go_wp2_with fail
        go_roundg (s.size - (i + 1))
        case rel => exact ⟨i + 1, rfl, by omega, rfl, HO5.out, B5.out⟩
        case measure => omega
    · obtain rfl : i = s.size := by omega
      obtain ⟨X, hX⟩ : ∃ X : ByteArray, X = ⟨(qM s s.size).toArray⟩ := ⟨_, rfl⟩
      have hXs : X.size ≤ 2000000001 := by
        have h1 : X.size = (qM s s.size).length := by rw [hX]; show (qM s s.size).toArray.size = _; simp
        have h2 := HM.out
        omega
      have h34 : (⟨#[34]⟩ : ByteArray).size = 1 := rfl
      rw [← hX] at hcv
      have HX := Lib.hid hX
      clear hX
      go_wp2_with fail
      go_ret
      exact ⟨by rw [← qM_end, ← HX.out]; rfl, HBB.out⟩
end Go.Proofs.YtokbakpbhpknfaaGreatDoor

namespace Go.Proofs.YtokbakpbhpknfaaGreatDoor
open Go.RowKit
set_option linter.unusedVariables false

theorem qM_done (s : ByteArray) : qM s s.size ++ [34] = dquote s.data.toList := by
  unfold qM dquote; rw [List.take_of_length_le (by simp)]; rfl
theorem dq1_sorts (c : UInt8) : (c = 92 ∧ dq1 c = [92, 92]) ∨ (c = 34 ∧ dq1 c = [92, 34]) ∨ (c = 10 ∧ dq1 c = [92, 110]) ∨ (c = 9 ∧ dq1 c = [92, 116]) ∨
    (((c.toNat : Int) == 92) = false ∧ ((c.toNat : Int) == 34) = false ∧ ((c.toNat : Int) == 10) = false ∧ ((c.toNat : Int) == 9) = false ∧ dq1 c = [c]) := by
  have hz : ∀ (b : UInt8), c ≠ b → ((c.toNat : Int) == (b.toNat : Int)) = false := fun b h => by
    rw [beq_eq_false_iff_ne]; intro e; exact h (UInt8.toNat_inj.1 (by omega))
  by_cases h1 : c = 92
  · exact .inl ⟨h1, by rw [h1]; rfl⟩
  by_cases h2 : c = 34
  · exact .inr (.inl ⟨h2, by rw [h2]; rfl⟩)
  by_cases h3 : c = 10
  · exact .inr (.inr (.inl ⟨h3, by rw [h3]; rfl⟩))
  by_cases h4 : c = 9
  · exact .inr (.inr (.inr (.inl ⟨h4, by rw [h4]; rfl⟩)))
  refine .inr (.inr (.inr (.inr ⟨hz 92 h1, hz 34 h2, hz 10 h3, hz 9 h4, ?_⟩)))
  unfold dq1; rw [if_neg (by rintro (h | h) <;> contradiction), if_neg h3, if_neg h4]

set_option maxRecDepth 100000 in
set_option maxHeartbeats 16000000 in
theorem rquote_any (s : ByteArray) (w : World) (h9 : s.size ≤ 1000000000) :
    Calls Tryz.prog 54 #[.string s] w fun e w' => e = .returned (.string (bs (dquote s.data.toList))) ∧ Below w.heap.size w w' := by
  obtain ⟨i0, hi, hz0, hz1, hz2⟩ := info_u8_parts
  have HI := Lib.hid hi
  have HZ0 := Lib.hid hz0
  have HZ1 := Lib.hid hz1
  have HZ2 := Lib.hid hz2
  clear hi hz0 hz1 hz2
  obtain ⟨B, hB⟩ : ∃ B, B = w.heap.size := ⟨_, rfl⟩
  rw [← hB]
  have HB := Lib.hid hB
  clear hB
  go_enter Tryz.func54, Tryz.ntmps54
  go_wp2_with fail
  go_loopg [3, 4] s.size (fun gk v3 v4 wr => ∃ i : Nat, gk = s.size - i ∧ i ≤ s.size ∧ v4 = .int .i64 (i : Int) ∧ wr.ownsRow B 5 1 v3 (qM s i).length ((qM s i).map bv) ∧ Below B w wr)
  case atStart => exact ⟨0, rfl, Nat.zero_le _, rfl, owns_lit w B [.int .u8 34] _ 1 (by have := HB.out; omega) (by unfold maxLen; omega) rfl, (Below.refl _ _).alloc (by have := HB.out; omega) _⟩
  case round =>
    obtain ⟨i, rfl, his, rfl, how, hb⟩ := hrel
    obtain ⟨va, vc, rfl⟩ := row_form how
    have HO := Lib.hid how
    have HBB := Lib.hid hb
    have hBs : B ≤ wr.heap.size := by have := hb.size; have := HB.out; omega
    have hM := qM_len s i his
    obtain ⟨m, hm⟩ : ∃ m, m = (qM s i).length := ⟨_, rfl⟩
    rw [← hm] at HO hM ⊢
    have HM := Lib.hid hm
    clear how hb hm
    by_cases hlt : i < s.size
    · have hg : s[i] = s.data.toList.getD i 0 := str_get s i hlt
      obtain ⟨c, hc⟩ : ∃ c, c = s.data.toList.getD i 0 := ⟨_, rfl⟩
      have HQ := Lib.hid (qM_step s i hlt)
      rw [← hc] at hg HQ
      clear hc
      have hlt' : (i : Int) < (s.size : Int) := by omega
      have hwr : IntKind.i64.wrap ((i : Int) + 1) = ((i + 1 : Nat) : Int) := by rw [IntKind.wrap_i64]; omega
      rcases dq1_sorts c with ⟨rfl, hd⟩ | ⟨rfl, hd⟩ | ⟨rfl, hd⟩ | ⟨rfl, hd⟩ | ⟨n1, n2, n3, n4, hd⟩
      · have HD := Lib.hid hd
        clear hd
        go_upto_region 9 with fail
        go_wp2_with (at_builtin; go_must (refine append_rowx rfl (.tmp 24) (.tmp 28) rfl B i0 HI.out HZ0.out HZ1.out HZ2.out _ m (qM s i) rfl (.inl (HO.out.alloc _)) wr.heap.size 2 2 [92, 92] rfl rfl ?a1 (by omega) (by omega) ?a6 ?a7))
        case a1 => intro j u hj; exact (Has.new wr [.int .u8 92, .int .u8 92] _).cellAt hj
        case a6 => simp; omega
        intro v5 w5 hown3 hb3
        have HO5 : Hid (w5.ownsRow B 5 1 v5 (qM s (i + 1)).length ((qM s (i + 1)).map bv)) := Lib.hid (by
          rw [HQ.out, HD.out, List.length_append, List.map_append, ← HM.out]; exact hown3)
        have B5 : Hid (Below B w w5) := Lib.hid ((HBB.out.alloc hBs _).trans hb3)
        clear hown3 hb3
        go_wp2_with fail
        go_roundg (s.size - (i + 1))
        case rel => exact ⟨i + 1, rfl, by omega, rfl, HO5.out, B5.out⟩
        case measure => omega
      · have HD := Lib.hid hd
        clear hd
        go_upto_region 9 with fail
        go_wp2_with (at_builtin; go_must (refine append_rowx rfl (.tmp 24) (.tmp 28) rfl B i0 HI.out HZ0.out HZ1.out HZ2.out _ m (qM s i) rfl (.inl (HO.out.alloc _)) wr.heap.size 2 2 [92, 34] rfl rfl ?b1 (by omega) (by omega) ?b6 ?b7))
        case b1 => intro j u hj; exact (Has.new wr [.int .u8 92, .int .u8 34] _).cellAt hj
        case b6 => simp; omega
        intro v5 w5 hown3 hb3
        have HO5 : Hid (w5.ownsRow B 5 1 v5 (qM s (i + 1)).length ((qM s (i + 1)).map bv)) := Lib.hid (by
          rw [HQ.out, HD.out, List.length_append, List.map_append, ← HM.out]; exact hown3)
        have B5 : Hid (Below B w w5) := Lib.hid ((HBB.out.alloc hBs _).trans hb3)
        clear hown3 hb3
        go_wp2_with fail
        go_roundg (s.size - (i + 1))
        case rel => exact ⟨i + 1, rfl, by omega, rfl, HO5.out, B5.out⟩
        case measure => omega
      · have HD := Lib.hid hd
        clear hd
        go_upto_region 11 with fail
        go_wp2_with (at_builtin; go_must (refine append_rowx rfl (.tmp 32) (.tmp 33) rfl B i0 HI.out HZ0.out HZ1.out HZ2.out _ m (qM s i) rfl (.inl (HO.out.alloc _)) wr.heap.size 2 2 [92, 110] rfl rfl ?c1 (by omega) (by omega) ?c6 ?c7))
        case c1 => intro j u hj; exact (Has.new wr [.int .u8 92, .int .u8 110] _).cellAt hj
        case c6 => simp; omega
        intro v5 w5 hown3 hb3
        have HO5 : Hid (w5.ownsRow B 5 1 v5 (qM s (i + 1)).length ((qM s (i + 1)).map bv)) := Lib.hid (by
          rw [HQ.out, HD.out, List.length_append, List.map_append, ← HM.out]; exact hown3)
        have B5 : Hid (Below B w w5) := Lib.hid ((HBB.out.alloc hBs _).trans hb3)
        clear hown3 hb3
        go_wp2_with fail
        go_roundg (s.size - (i + 1))
        case rel => exact ⟨i + 1, rfl, by omega, rfl, HO5.out, B5.out⟩
        case measure => omega
      · have HD := Lib.hid hd
        clear hd
        go_upto_region 13 with fail
        go_wp2_with (at_builtin; go_must (refine append_rowx rfl (.tmp 37) (.tmp 38) rfl B i0 HI.out HZ0.out HZ1.out HZ2.out _ m (qM s i) rfl (.inl (HO.out.alloc _)) wr.heap.size 2 2 [92, 116] rfl rfl ?d1 (by omega) (by omega) ?d6 ?d7))
        case d1 => intro j u hj; exact (Has.new wr [.int .u8 92, .int .u8 116] _).cellAt hj
        case d6 => simp; omega
        intro v5 w5 hown3 hb3
        have HO5 : Hid (w5.ownsRow B 5 1 v5 (qM s (i + 1)).length ((qM s (i + 1)).map bv)) := Lib.hid (by
          rw [HQ.out, HD.out, List.length_append, List.map_append, ← HM.out]; exact hown3)
        have B5 : Hid (Below B w w5) := Lib.hid ((HBB.out.alloc hBs _).trans hb3)
        clear hown3 hb3
        go_wp2_with fail
        go_roundg (s.size - (i + 1))
        case rel => exact ⟨i + 1, rfl, by omega, rfl, HO5.out, B5.out⟩
        case measure => omega
      · have HD := Lib.hid hd
        clear hd
        go_upto_region 6 with fail
        go_wp2_with (at_builtin; go_must (refine append_rowx rfl (.tmp 15) (.tmp 19) rfl B i0 HI.out HZ0.out HZ1.out HZ2.out _ m (qM s i) rfl (.inl (HO.out.alloc _)) wr.heap.size 1 1 [c] rfl rfl ?e1 (by omega) (by omega) ?e6 ?e7))
        case e1 => intro j u hj; exact (Has.new wr [.int .u8 (c.toNat : Int)] _).cellAt hj
        case e6 => simp; omega
        intro v5 w5 hown3 hb3
        have HO5 : Hid (w5.ownsRow B 5 1 v5 (qM s (i + 1)).length ((qM s (i + 1)).map bv)) := Lib.hid (by
          rw [HQ.out, HD.out, List.length_append, List.map_append, ← HM.out]; exact hown3)
        have B5 : Hid (Below B w w5) := Lib.hid ((HBB.out.alloc hBs _).trans hb3)
        clear hown3 hb3
        go_wp2_with fail
        go_roundg (s.size - (i + 1))
        case rel => exact ⟨i + 1, rfl, by omega, rfl, HO5.out, B5.out⟩
        case measure => omega
    · obtain rfl : i = s.size := by omega
      have hconv : ∀ (W : World) (a : Option Addr) (c : Nat), W.ownsRow B 5 1 (.slice a (m + 1) c) (m + 1) ((dquote s.data.toList).map bv) → (convert 45 9 (.slice a (m + 1) c)).run Tryz.prog W = .ok (.string (bs (dquote s.data.toList))) W := fun W a c h => convert_own h
      obtain ⟨X, hX⟩ : ∃ X, X = bs (dquote s.data.toList) := ⟨_, rfl⟩
      rw [← hX] at hconv
      have HC := Lib.hid hconv
      have HX := Lib.hid hX
      clear hconv hX
      go_upto_region 14 with fail
      go_wp2_with (at_builtin; go_must (refine append_rowx rfl (.tmp 40) (.tmp 41) rfl B i0 HI.out HZ0.out HZ1.out HZ2.out _ m (qM s s.size) rfl (.inl (HO.out.alloc _)) wr.heap.size 1 1 [34] rfl rfl ?z1 (by omega) (by omega) ?z6 ?z7))
      case z1 => intro j u hj; exact (Has.new wr [.int .u8 34] _).cellAt hj
      case z6 => simp; omega
      intro v5 w5 hown3 hb3
      have hown3 : w5.ownsRow B 5 1 v5 (m + 1) ((dquote s.data.toList).map bv) := by rw [← qM_done, List.map_append]; exact hown3
      have B5 : Hid (Below B w w5) := Lib.hid ((HBB.out.alloc hBs _).trans hb3)
      obtain ⟨a5, c5, rfl⟩ := row_form hown3
      have hcv := HC.out _ _ _ hown3
      clear hown3 hb3
      go_wp2_with fail
      go_ret
      exact ⟨by rw [← HX.out]; rfl, B5.out⟩
end Go.Proofs.YtokbakpbhpknfaaGreatDoor
