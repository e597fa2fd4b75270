/-
  The contracts of Read, Sync, Arm, and of what is refused. Conditions: the device is as Dev says.
-/
import Derived.Test.YtjidiholhhdanaaSWrite
namespace Go.Proofs.Ytjidiholhhdanaa
open Go.RowKit
set_option linter.unusedVariables false

section
variable {w w' : World} {B pb bd bl : Nat} {v : Value} {n : Nat} {D L : List UInt8} {way : List Wr} {ops fall : Nat} {off : Bool}
theorem Dev.land (h : Dev w B pb bd bl v n D L way ops fall off) {D' : List UInt8} (h1 : Has w' bd (D'.map bv) 68) (hb : But w.heap.size bd w w') (hl : D'.length = 256 * n) : Dev w' B pb bd bl v n D' L way ops fall off :=
  ⟨h.box.but hb h.box.lt (Ne.symm (has_type h.dur h.box (by decide))), h1, h.lat.but hb h.lat.lt (Ne.symm h.ne), ownsRow_but h.wrs hb (Nat.le_refl _) (own_type h.wrs h.dur (by decide)), hl, h.ll, h.good, h.pbB, h.bdB, h.blB, h.ne, h.room⟩
theorem Dev.laid (h : Dev w B pb bd bl v n D L way ops fall off) {L' : List UInt8} (h1 : Has w' bl (L'.map bv) 68) (hb : But w.heap.size bl w w') (hl : L'.length = 256 * n) : Dev w' B pb bd bl v n D L' way ops fall off :=
  ⟨h.box.but hb h.box.lt (Ne.symm (has_type h.lat h.box (by decide))), h.dur.but hb h.dur.lt h.ne, h1, ownsRow_but h.wrs hb (Nat.le_refl _) (own_type h.wrs h.lat (by decide)), h.dl, hl, h.good, h.pbB, h.bdB, h.blB, h.ne, h.room⟩
theorem Dev.boxed (h : Dev w B pb bd bl v n D L way ops fall off) {ops' fall' : Nat} {off' : Bool} (h1 : Has w' pb (boxL bd bl v n ops' fall' off') 63) (hb : But w.heap.size pb w w') : Dev w' B pb bd bl v n D L way ops' fall' off' :=
  ⟨h1, h.dur.but hb h.dur.lt (has_type h.dur h.box (by decide)), h.lat.but hb h.lat.lt (has_type h.lat h.box (by decide)), ownsRow_but h.wrs hb (Nat.le_refl _) (own_type h.wrs h.box (by decide)), h.dl, h.ll, h.good, h.pbB, h.bdB, h.blB, h.ne, h.room⟩
theorem Dev.emptied (h : Dev w B pb bd bl v n D L way ops fall off) {ops' fall' : Nat} {off' : Bool} (h1 : Has w' pb (boxL bd bl (.slice none 0 0) n ops' fall' off') 63) (hb : But w.heap.size pb w w') : Dev w' B pb bd bl (.slice none 0 0) n D L [] ops' fall' off' :=
  ⟨h1, h.dur.but hb h.dur.lt (has_type h.dur h.box (by decide)), h.lat.but hb h.lat.lt (has_type h.lat h.box (by decide)), World.ownsRow_nil _ _ _ _, h.dl, h.ll, Good.nil n, h.pbB, h.bdB, h.blB, h.ne, h.room⟩
/-- The k-th write, in memory. -/
theorem Dev.elem (h : Dev w B pb bd bl v n D L way ops fall off) {k : Nat} (hk : k < way.length) : ∃ g cap, v = .slice (some ⟨g, 0, none⟩) way.length cap ∧
    w.cell? ⟨g, k * 257, none⟩ = some (.int .i64 ((way.getD k (0, [])).1 : Int)) ∧ (∀ j, j < 256 → w.cell? ⟨g, k * 257 + 1 + j, none⟩ = some (bv ((way.getD k (0, [])).2.getD j 0))) := by
  obtain ⟨g, cap, rfl, hb, hlt⟩ := h.wrs.form (by omega)
  obtain ⟨g1, g2⟩ := h.good k hk
  have hat : ∀ j, j < 257 → w.cell? ⟨g, k * 257 + j, none⟩ = (wcells (way.getD k (0, [])))[j]? := by
    intro j hj
    rw [h.wrs.cellAt _ (by omega), wayV_get h.good k hk j hj]
  refine ⟨g, cap, rfl, ?_, fun j hj => ?_⟩
  · have := hat 0 (by omega)
    rw [Nat.add_zero] at this
    rw [this]; rfl
  · have := hat (1 + j) (by omega)
    rw [show k * 257 + (1 + j) = k * 257 + 1 + j by omega] at this
    rw [this, Nat.add_comm 1 j]
    show ((way.getD k (0, [])).2.map bv)[j]? = _
    exact map_bv_get _ _ (by omega)
theorem Dev.vform (h : Dev w B pb bd bl v n D L way ops fall off) : ∃ a cap, v = .slice a way.length cap := by
  rcases h.wrs.2 with ⟨e, h0⟩ | ⟨g, cap, cur, e, _⟩
  · exact ⟨none, 0, by rw [e, h0]⟩
  · exact ⟨_, _, e⟩
end

set_option maxRecDepth 100000
theorem write_arg {w : World} {B pb bd bl : Nat} {v : Value} {n : Nat} {D L : List UInt8} {way : List Wr} {ops fall : Nat} {off : Bool} (h : Dev w B pb bd bl v n D L way ops fall off) (i : Int) (hi : i < 0 ∨ (n : Int) ≤ i) (a : Option Addr) (len cap : Nat) :
    Calls Try.prog 19 #[.pointer (some ⟨pb, 0, none⟩), .int .i64 i, .slice a len cap] w fun e w' => e = .returned (.int .i64 1) ∧ w = w' := by
  have HN := Lib.hid (has_not (h.box.cellAt (i := 0) rfl) h.room hi)
  clear h hi
  go_enter Try.func19, Try.ntmps19
  go_wp2_with (first | (go_at_call 27; refine HN.out.mono ?_; rintro e w' ⟨rfl, rfl⟩))
  go_ret
  exact ⟨rfl, rfl⟩
theorem write_form {w : World} {B pb bd bl : Nat} {v : Value} {n : Nat} {D L : List UInt8} {way : List Wr} {ops fall : Nat} {off : Bool} (h : Dev w B pb bd bl v n D L way ops fall off) (i : Nat) (hi : i < n) (a : Option Addr) (len cap : Nat) (hl : len ≠ 256) :
    Calls Try.prog 19 #[.pointer (some ⟨pb, 0, none⟩), .int .i64 (i : Int), .slice a len cap] w fun e w' => e = .returned (.int .i64 3) ∧ w = w' := by
  have HN := Lib.hid (has_yes (h.box.cellAt (i := 0) rfl) h.room hi)
  have h1 : ((len : Int) != 256) = true := by simp; omega
  clear h hi hl
  go_enter Try.func19, Try.ntmps19
  go_wp2_with (first | (go_at_call 27; refine HN.out.mono ?_; rintro e w' ⟨rfl, rfl⟩))
  go_ret
  exact ⟨rfl, rfl⟩
theorem write_off {w : World} {B pb bd bl : Nat} {v : Value} {n : Nat} {D L : List UInt8} {way : List Wr} {ops fall : Nat} (h : Dev w B pb bd bl v n D L way ops fall true) (i : Nat) (hi : i < n) (a : Option Addr) (cap : Nat) :
    Calls Try.prog 19 #[.pointer (some ⟨pb, 0, none⟩), .int .i64 (i : Int), .slice a 256 cap] w fun e w' => e = .returned (.int .i64 14) ∧ w = w' := by
  have HN := Lib.hid (has_yes (h.box.cellAt (i := 0) rfl) h.room hi)
  have c5 := h.box.cellAt (i := 5) rfl
  clear h hi
  go_enter Try.func19, Try.ntmps19
  go_wp2_with (first | (go_at_call 27; refine HN.out.mono ?_; rintro e w' ⟨rfl, rfl⟩))
  go_ret
  exact ⟨rfl, rfl⟩
theorem read_arg {w : World} {B pb bd bl : Nat} {v : Value} {n : Nat} {D L : List UInt8} {way : List Wr} {ops fall : Nat} {off : Bool} (h : Dev w B pb bd bl v n D L way ops fall off) (i : Int) (hi : i < 0 ∨ (n : Int) ≤ i) :
    Calls Try.prog 16 #[.pointer (some ⟨pb, 0, none⟩), .int .i64 i] w fun e w' => e = .returned (.tuple #[.slice none 0 0, .int .i64 1]) ∧ w = w' := by
  have HN := Lib.hid (has_not (h.box.cellAt (i := 0) rfl) h.room hi)
  clear h hi
  go_enter Try.func16, Try.ntmps16
  go_wp2_with (first | (go_at_call 27; refine HN.out.mono ?_; rintro e w' ⟨rfl, rfl⟩))
  go_ret2
  exact ⟨rfl, rfl⟩
theorem read_off {w : World} {B pb bd bl : Nat} {v : Value} {n : Nat} {D L : List UInt8} {way : List Wr} {ops fall : Nat} (h : Dev w B pb bd bl v n D L way ops fall true) (i : Nat) (hi : i < n) :
    Calls Try.prog 16 #[.pointer (some ⟨pb, 0, none⟩), .int .i64 (i : Int)] w fun e w' => e = .returned (.tuple #[.slice none 0 0, .int .i64 14]) ∧ w = w' := by
  have HN := Lib.hid (has_yes (h.box.cellAt (i := 0) rfl) h.room hi)
  have c5 := h.box.cellAt (i := 5) rfl
  clear h hi
  go_enter Try.func16, Try.ntmps16
  go_wp2_with (first | (go_at_call 27; refine HN.out.mono ?_; rintro e w' ⟨rfl, rfl⟩))
  go_ret2
  exact ⟨rfl, rfl⟩

def ReadP (q : List UInt8) (w : World) (e : Ending) (w' : World) : Prop :=
  ∃ b, e = .returned (.tuple #[.slice (some ⟨b, 0, none⟩) 256 256, .int .i64 0]) ∧ Has w' b (q.map bv) 5 ∧ w.heap.size ≤ b ∧ Below w.heap.size w w'

theorem splice_all (Z q : List Value) (h : Z.length = q.length) : splice Z 0 q = q := by
  unfold splice
  rw [List.take_zero, List.nil_append, Nat.zero_add, List.drop_eq_nil_of_le (Nat.le_of_eq h), List.append_nil]

set_option maxHeartbeats 2000000 in
theorem read_ok {w : World} {B pb bd bl : Nat} {v : Value} {n : Nat} {D L : List UInt8} {way : List Wr} {ops fall : Nat} (h : Dev w B pb bd bl v n D L way ops fall false) (i : Nat) (hi : i < n) :
    Calls Try.prog 16 #[.pointer (some ⟨pb, 0, none⟩), .int .i64 (i : Int)] w (ReadP (sec L i) w) := by
  have HN := Lib.hid (has_yes (h.box.cellAt (i := 0) rfl) h.room hi)
  have c5 := h.box.cellAt (i := 5) rfl
  have hmk := mk256 w
  have hin : (i : Int) < (n : Int) := by omega
  obtain ⟨A, hA⟩ : ∃ A, A = w.heap.size := ⟨_, rfl⟩
  obtain ⟨w1, hw1⟩ : ∃ w1, w1 = w.alloc (.cells ((zer 256).map bv).toArray 5) := ⟨_, rfl⟩
  rw [← hA, ← hw1] at hmk
  have h1 : Hid (w1.heap[A]? = some (.cells ((zer 256).map bv).toArray 5 (0, 0))) := Lib.hid (by rw [hw1, hA]; exact Has.new w _ _)
  have b1 : Hid (Below A w w1) := Lib.hid (by rw [hw1, hA]; exact (Below.refl _ _).alloc (Nat.le_refl _) _)
  have hlb : Has w1 bl (L.map bv) 68 := h.lat.below b1.out (by rw [hA]; exact h.lat.lt)
  have c1 := (h.box.below b1.out (by rw [hA]; exact h.box.lt)).cellAt (i := 1) rfl
  obtain ⟨X, hX⟩ : ∃ X, X = (sec L i).map bv := ⟨_, rfl⟩
  have hXl : X.length = 256 := by rw [hX, List.length_map, sec_length h.ll hi]
  have HSR : Hid (∀ j u, X[j]? = some u → w1.cell? ((⟨bl, i * 256, none⟩ : Addr).add j) = some u) := Lib.hid (by
    intro j u hj
    have hjl : j < 256 := by rw [← hXl]; exact (List.getElem?_eq_some_iff.1 hj).1
    rw [Addr.add_mid]
    refine hlb.cellAt ?_
    rw [← hj, hX, List.getElem?_map, List.getElem?_map, sec_get hjl, Nat.mul_comm])
  have HMN : Hid (X.length = Nat.min 256 256) := Lib.hid hXl
  have HFT : Hid (0 + X.length ≤ ((zer 256).map bv).length) := Lib.hid (by rw [hXl, List.length_map]; exact Nat.le_of_eq (List.length_replicate ..).symm)
  have HON : Hid (∀ u ∈ X, u.oneCell' = true) := Lib.hid (by rw [hX]; exact bv_one _)
  have HX := Lib.hid hX
  have HA := Lib.hid hA
  have HU := Lib.hid infoU
  have HXL := Lib.hid hXl
  clear h hi hA hw1 hX hXl hlb
  go_enter Try.func16, Try.ntmps16
  go_wp2_with (first
    | (go_at_call 27; refine HN.out.mono ?_; rintro e w' ⟨rfl, rfl⟩)
    | (refine wpList_copy_but rfl (.tmp 18) (.tmp 25) 31 31 rfl 5 Try.underlying31 HU.out (some ⟨A, 0, none⟩) (some ⟨bl, i * 256, none⟩) 256 256 256 256 rfl rfl A 0 ((zer 256).map bv) 5 h1.out X HMN.out (fun _ => ⟨rfl, _, rfl, HSR.out⟩) HFT.out HON.out ?_; intro w2 hg2 hb2))
  go_ret2
  refine ⟨A, rfl, ?_, by rw [HA.out]; exact Nat.le_refl _, by rw [← HA.out]; exact b1.out.trans ((hb2.out.mono (by have := b1.out.size; rw [← HA.out] at this; exact this)).below (Nat.le_refl _))⟩
  have h2 := hg2.out
  rw [splice_all _ _ (by rw [HXL.out, List.length_map]; exact List.length_replicate ..), HX.out] at h2
  exact h2

end Go.Proofs.Ytjidiholhhdanaa
