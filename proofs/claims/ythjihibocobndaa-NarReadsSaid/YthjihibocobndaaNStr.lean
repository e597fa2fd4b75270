/-
  The contract of the reference's str: a string of an archive. Condition: it is no longer than 9 * 10^8 bytes.
-/
import Derived.Test.YthjihibocobndaaNGood
import Derived.Test.YthjihibocobndaaNSrc
import Derived.Lib.AppendStr
import Derived.Deep.AppendLies
import Derived.Deep.LoopGhost
namespace Go.Proofs.Ythjihibocobndaa
open Go.RowKit
set_option linter.unusedVariables false

/-- What is told is a row of bytes of its own. -/
def OwnB (w : World) (L : List UInt8) (e : Ending) (w' : World) : Prop :=
  ∃ v, e = .returned v ∧ w'.ownsRow w.heap.size 5 1 v L.length (L.map bv) ∧ Below w.heap.size w w'

theorem le8_digit (n i : Nat) (hi : i < 8) : (le8 n).take i ++ [UInt8.ofNat (n / 256 ^ i)] = (le8 n).take (i + 1) := by
  have e : (le8 n)[i]? = some (UInt8.ofNat (n / 256 ^ i)) := by
    rw [le8, List.getElem?_map, List.getElem?_range hi]; rfl
  rw [List.take_add_one, e]; rfl

theorem one_new (w : World) (i : Int) (t : TypeId) : ∀ j u, ([.int .u8 i] : List Value)[j]? = some u → (w.alloc (.cells #[.int .u8 i] t)).cell? ((⟨w.heap.size, 0, none⟩ : Addr).add j) = some u := by
  intro j u hj
  match j, hj with
  | 0, hj => cases hj; rw [Addr.add_lit]; exact (Has.new w [.int .u8 i] t).cellAt (i := 0) rfl
  | j + 1, hj => simp at hj
theorem one_cell (i : Int) : ∀ u ∈ ([.int .u8 i] : List Value), u.oneCell' = true := by
  intro u hu; simp at hu; subst hu; rfl

def StrR (s : ByteArray) (w : World) (pv nv iv : Value) (wr : World) : Prop := ∃ (i m : Nat) (v : Value), i ≤ 8 ∧ iv = .int .i64 i ∧ nv = .int .i64 m ∧ m = s.size / 256 ^ i ∧ pv = v ∧
  wr.ownsRow w.heap.size 5 1 v i (((le8 s.size).take i).map bv) ∧ Below w.heap.size w wr
def StrQ (s : ByteArray) (w : World) (k : Nat) (pv : Value) (wr : World) : Prop := ∃ (j l : Nat) (v : Value), j + k = padN s.size ∧ l = 8 + s.size + j ∧ pv = v ∧
  wr.ownsRow w.heap.size 5 1 v l ((le8 s.size ++ (s.data.toList ++ List.replicate j 0)).map bv) ∧ Below w.heap.size w wr

set_option maxRecDepth 100000 in
set_option maxHeartbeats 8000000 in
theorem str_any (s : ByteArray) (w : World) (hs : s.size ≤ 900000000) : Calls Try.prog 20 #[.string s] w (OwnB w (strN s.data.toList)) := by
  obtain ⟨i0, hi, hz0, hz1, hz2⟩ := info_u8w_parts
  have HI := Lib.hid hi
  have HZ0 := Lib.hid hz0
  have HZ1 := Lib.hid hz1
  have HZ2 := Lib.hid hz2
  clear hi hz0 hz1 hz2
  have hsl : Hid (s.data.toList.length = s.size) := Lib.hid (by rw [Array.length_toList]; rfl)
  have hp8 : padN s.size < 8 := by unfold padN; omega
  go_enter Try.func20, Try.ntmps20
  go_wp2_with fail
  go_loopw [3, 4, 5] (fun pv nv iv wr => StrR s w pv nv iv wr) (fun _ _ iv _ => 8 - (intOf iv).toNat)
  case atStart => exact ⟨0, s.size, .slice none 0 0, Nat.zero_le _, rfl, rfl, by simp, rfl, World.ownsRow_nil _ _ _ _, Below.refl _ _⟩
  case round =>
    obtain ⟨i, m, v, hi8, rfl, rfl, hm, hpv, hown, hbel⟩ := hrel
    obtain rfl := hpv.symm
    obtain ⟨X, hX⟩ : ∃ X, X = ((le8 s.size).take i).map bv := ⟨_, rfl⟩
    rw [← hX] at hown
    have HXX := Lib.hid hX
    have HM := Lib.hid hm
    have HO := Lib.hid hown
    clear hX
    have HB := Lib.hid hbel
    have hwz := hbel.size
    have HWZ := Lib.hid hwz
    have hmle : m ≤ 900000000 := by rw [hm]; exact Nat.le_trans (Nat.div_le_self _ _) hs
    clear hm hown hbel hwz
    by_cases hlt : i < 8
    · have hii : (i : Int) < 8 := by omega
      obtain ⟨b, hb⟩ : ∃ b, b = UInt8.ofNat m := ⟨_, rfl⟩
      have hbm : (m : Int) % 256 = (b.toNat : Int) := by rw [hb, UInt8.toNat_ofNat']; rfl
      have HBB := Lib.hid hb
      have hbl := UInt8.toNat_lt b
      have hb1 : (0 : Int) ≤ (b.toNat : Int) := by omega
      have hb2 : (b.toNat : Int) < 256 := by omega
      clear hb
      go_wp2_with (at_builtin; go_must (refine wpList_append_lies _ rfl (.tmp 12) (.tmp 16) 22 rfl w.heap.size 5 i0 (.int .u8 0) 1 1 Try.underlying22 HI.out HZ0.out HZ1.out HZ2.out rfl (by omega) v i X rfl (HO.out.alloc _) ⟨wr.heap.size, 0, none⟩ 1 1 [.int .u8 (b.toNat : Int)] rfl rfl (one_new wr _ _) (one_cell _) (by omega) (by unfold maxLen; omega) (by omega) (by have := HWZ.out; simp; omega) _ rfl ?d7))
      intro g cap w2 ho hg hlo hhi
      have HO2 : Hid (w2.ownsRow w.heap.size 5 1 (.slice (some ⟨g, 0, none⟩) (i + 1) cap) (i + 1) (((le8 s.size).take (i + 1)).map bv)) := Lib.hid (by
        have e := HM.out
        rw [← le8_digit s.size i hlt, List.map_append, ← e, ← HBB.out, ← HXX.out]; exact ho)
      have HB2 : Hid (Below w.heap.size w w2) := Lib.hid ((HB.out.alloc HWZ.out _).grown hg (by simp; have := HWZ.out; omega) (fun q hq => (HO.out.lt q hq).1))
      have HM2 : Hid (m / 256 = s.size / 256 ^ (i + 1)) := Lib.hid (by rw [HM.out, Nat.div_div_eq_div_mul, Nat.pow_succ])
      clear ho hg hlo hhi hbm
      go_wp2_with fail
      go_roundw
      case rel => exact ⟨i + 1, m / 256, _, by omega, by go_num, by go_num, HM2.out, rfl, HO2.out, HB2.out⟩
      case measure => simp [intOf]; omega
    · obtain rfl : i = 8 := by omega
      have HO8 : Hid (wr.ownsRow w.heap.size 5 1 v 8 ((le8 s.size).map bv)) := Lib.hid (by have := HO.out; rw [HXX.out, List.take_of_length_le (by rw [le8_length]; exact Nat.le_refl _)] at this; exact this)
      clear HO HM
      go_wp2_with (at_builtin; go_must (refine Go.Lib.wpList_append_own_string _ rfl (.tmp 20) (.tmp 21) 22 9 rfl w.heap.size 5 i0 Try.underlying22 Try.underlying9 HI.out HZ0.out HZ1.out HZ2.out v 8 ((le8 s.size).map bv) rfl HO8.out s rfl ?c1 ?c2 ?c3 ?c4))
      case c1 => unfold maxLen; omega
      case c2 => omega
      case c3 => exact HWZ.out
      intro v8 w8 h8o h8g h8n
      have HO9 : Hid (w8.ownsRow w.heap.size 5 1 v8 (8 + s.size) ((le8 s.size ++ (s.data.toList ++ List.replicate 0 0)).map bv)) := Lib.hid (by
        rw [List.replicate_zero, List.append_nil, List.map_append]; exact h8o)
      have HB9 : Hid (Below w.heap.size w w8) := Lib.hid (HB.out.grown h8g HWZ.out (fun q hq => (HO8.out.lt q hq).1))
      clear h8o h8g h8n HO8 HB
      go_wp2_with fail
      go_loopg [3] (padN s.size) (fun k pv w3 => StrQ s w k pv w3)
      case atStart => exact ⟨0, 8 + s.size, v8, by omega, by omega, rfl, HO9.out, HB9.out⟩
      case round =>
        clear HO9 HB9
        obtain ⟨j, l, v, hj, hl, hpv, hown, hbel⟩ := hrel
        obtain rfl := hpv.symm
        obtain ⟨X, hX⟩ : ∃ X, X = (le8 s.size ++ (s.data.toList ++ List.replicate j 0)).map bv := ⟨_, rfl⟩
        rw [← hX] at hown
        have HXX := Lib.hid hX
        have HO := Lib.hid hown
        have HB := Lib.hid hbel
        have HL := Lib.hid hl
        clear hX
        have HJ := Lib.hid hj
        have HWZ := Lib.hid hbel.size
        have hl9 : l ≤ 900000100 := by omega
        obtain ⟨ax, cx, rfl⟩ : ∃ ax cx, v = .slice ax l cx := by
          rcases hown.2 with ⟨h, rfl⟩ | ⟨g', cap', cur', he, _⟩
          · exact ⟨_, _, h⟩
          · exact ⟨_, _, he⟩
        by_cases hlt : j < padN s.size
        · have htest : ((l : Int) % 8 == 0) = false := by
            rw [beq_eq_false_iff_ne]
            have : padN s.size = (8 - s.size % 8) % 8 := rfl
            omega
          clear hown hbel hl hj
          go_wp2_with (at_builtin; go_must (refine wpList_append_lies _ rfl (.tmp 27) (.tmp 28) 22 rfl w.heap.size 5 i0 (.int .u8 0) 1 1 Try.underlying22 HI.out HZ0.out HZ1.out HZ2.out rfl (by omega) (.slice ax l cx) l X rfl (HO.out.alloc _) ⟨wr.heap.size, 0, none⟩ 1 1 [.int .u8 0] rfl rfl (one_new wr _ _) (one_cell _) (by omega) (by unfold maxLen; omega) (by omega) (by have := HWZ.out; simp; omega) _ rfl ?f7))
          intro g cap w2 ho hg hlo hhi
          have HO2 : Hid (w2.ownsRow w.heap.size 5 1 (.slice (some ⟨g, 0, none⟩) (l + 1) cap) (l + 1) ((le8 s.size ++ (s.data.toList ++ List.replicate (j + 1) 0)).map bv)) := Lib.hid (by
            have e : (le8 s.size ++ (s.data.toList ++ List.replicate (j + 1) 0)).map bv = (le8 s.size ++ (s.data.toList ++ List.replicate j 0)).map bv ++ [.int .u8 0] := by
              rw [List.replicate_succ']; simp only [List.map_append, List.append_assoc, List.map_cons, List.map_nil]; rfl
            rw [e, ← HXX.out]; exact ho)
          have HB2 : Hid (Below w.heap.size w w2) := Lib.hid ((HB.out.alloc HWZ.out _).grown hg (by simp; have := HWZ.out; omega) (fun q hq => (HO.out.lt q hq).1))
          have HL2 : Hid (l + 1 = 8 + s.size + (j + 1)) := Lib.hid (by have := HL.out; omega)
          have hgk : gk - 1 < gk := by have := HJ.out; omega
          have HJ2 : Hid (j + 1 + (gk - 1) = padN s.size) := Lib.hid (by have := HJ.out; omega)
          clear ho hg hlo hhi htest
          go_wp2_with fail
          go_roundg (gk - 1)
          case rel => exact ⟨j + 1, l + 1, _, HJ2.out, HL2.out, rfl, HO2.out, HB2.out⟩
          case measure => exact hgk
        · obtain rfl : j = padN s.size := by omega
          have htest : ((l : Int) % 8 == 0) = true := by
            rw [beq_iff_eq]
            have : padN s.size = (8 - s.size % 8) % 8 := rfl
            omega
          clear hown hbel hl hj
          go_wp2_with fail
          go_ret
          refine ⟨_, rfl, ?_, HB.out⟩
          unfold strN
          rw [hsl.out, List.length_append, List.length_append, List.length_replicate, hsl.out, le8_length, show 8 + (s.size + padN s.size) = l from by have := HL.out; omega]
          rw [← HXX.out]; exact HO.out

end Go.Proofs.Ythjihibocobndaa
