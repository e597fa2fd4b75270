/-
  The reference's device in memory; its begin. No conditions.
-/
import Derived.Test.YtjidiholhhdanaaSRest
namespace Go.Proofs.Ytjidiholhhdanaa
open Go.RowKit
set_option linter.unusedVariables false
set_option maxRecDepth 100000

/-- A region's condition may grow stronger on the way. -/
theorem wpAnyH_mono {P : Program} {md : Region.Mode} {ops : Array Oper} {Q : Exit → Act → World → Prop} {S' S : World → Prop} (hS : ∀ w, S' w → S w) :
    ∀ (fuel : Nat) (listed : Array Bool) (a : Act) (w : World), wpAnyH P md ops Q S' fuel listed a w → wpAnyH P md ops Q S fuel listed a w
  | 0, _, _, _, h => h
  | fuel + 1, _, _, _, h => ⟨h.1, fun i hi => wpOp_mono (fun a' w' h' => ⟨hS _ h'.1, wpAnyH_mono hS fuel _ a' w' h'.2⟩) (h.2 i hi)⟩

def bs (l : List UInt8) : ByteArray := ⟨l.toArray⟩
theorem bs_size (l : List UInt8) : (bs l).size = l.length := by simp [bs, ByteArray.size]
def strV (D : List UInt8) (n : Nat) : List Value := (List.range n).map fun i => .string (bs (sec D i))
theorem strV_length (D : List UInt8) (n : Nat) : (strV D n).length = n := by simp [strV]
theorem strV_get {D : List UInt8} {n i : Nat} (h : i < n) : (strV D n)[i]? = some (.string (bs (sec D i))) := by
  unfold strV; rw [List.getElem?_map, List.getElem?_range h]; rfl
theorem strV_set {D D' : List UInt8} {n i : Nat} (hi : i < n) (h : ∀ j, j < n → j ≠ i → sec D' j = sec D j) : (strV D n).set i (.string (bs (sec D' i))) = strV D' n := by
  refine List.ext_getElem? fun j => ?_
  rw [List.getElem?_set, strV_length]
  by_cases hji : i = j
  · subst hji; rw [if_pos rfl, if_pos hi, strV_get hi]
  · rw [if_neg hji]
    by_cases hj : j < n
    · rw [strV_get hj, strV_get hj, h j hj (Ne.symm hji)]
    · rw [List.getElem?_eq_none (by rw [strV_length]; omega), List.getElem?_eq_none (by rw [strV_length]; omega)]
def rwayV : List Wr → List Value
  | [] => []
  | x :: r => .int .i64 (x.1 : Int) :: .string (bs x.2) :: rwayV r
theorem rwayV_length : ∀ way : List Wr, (rwayV way).length = way.length * 2
  | [] => rfl
  | x :: r => by simp only [rwayV, List.length_cons, rwayV_length r]; omega
theorem rwayV_snoc (way : List Wr) (x : Wr) : rwayV (way ++ [x]) = rwayV way ++ [.int .i64 (x.1 : Int), .string (bs x.2)] := by
  induction way with
  | nil => rfl
  | cons y r ih => simp [rwayV, ih]
theorem rwayV_at : ∀ (way : List Wr) (k : Nat), k < way.length → (rwayV way)[k * 2]? = some (.int .i64 ((way.getD k (0, [])).1 : Int))
  | [], _, h => by simp at h
  | x :: r, 0, _ => rfl
  | x :: r, k + 1, h => by
    rw [show (k + 1) * 2 = k * 2 + 2 by omega]
    exact rwayV_at r k (by simpa using h)
theorem rwayV_str : ∀ (way : List Wr) (k : Nat), k < way.length → (rwayV way)[k * 2 + 1]? = some (.string (bs (way.getD k (0, [])).2))
  | [], _, h => by simp at h
  | x :: r, 0, _ => rfl
  | x :: r, k + 1, h => by
    rw [show (k + 1) * 2 + 1 = k * 2 + 1 + 2 by omega]
    exact rwayV_str r k (by simpa using h)

abbrev tRDev : TypeId := 38
abbrev tStr : TypeId := 9
abbrev tRWr : TypeId := 72
def refT : List TypeId := [tRDev, tStr, tRWr]
def rboxL (vl vw : Value) (left : Nat) (off : Bool) (ops : Nat) : List Value := [vl, vw, .int .i64 (left : Int), .bool off, .int .i64 (ops : Int)]

theorem own_apart {w : World} {B B' size size' n n' : Nat} {e e' : TypeId} {v v' : Value} {xs xs' : List Value} (h : w.ownsRow B e size v n xs) (h' : w.ownsRow B' e' size' v' n' xs') (hne : e ≠ e') : v.ownBlock ≠ v'.ownBlock ∨ v.ownBlock = none := by
  rcases h.2 with ⟨rfl, _⟩ | ⟨g, cap, cur, rfl, hb, hg, _⟩
  · exact .inr rfl
  · left
    rcases h'.2 with ⟨rfl, _⟩ | ⟨g', cap', cur', rfl, hb', hg', _⟩
    · intro e0; cases e0
    · intro e0
      cases e0
      have := hg.symm.trans hg'
      simp only [Option.some.injEq, Obj.cells.injEq] at this
      exact hne this.2.1
/-- The reference's device. -/
structure RDev (w : World) (B rp : Nat) (vl vw : Value) (n : Nat) (D : List UInt8) (way : List Wr) (left : Nat) (off : Bool) (ops : Nat) : Prop where
  box : Has w rp (rboxL vl vw left off ops) 38
  strs : w.ownsRow B 9 1 vl n (strV D n)
  wrs : w.ownsRow B 72 2 vw way.length (rwayV way)
  dl : D.length = 256 * n
  good : Good n way
  rpB : B ≤ rp
  room : n ≤ 8192

section
variable {w w' : World} {B rp : Nat} {vl vw : Value} {n : Nat} {D : List UInt8} {way : List Wr} {left : Nat} {off : Bool} {ops : Nat}
theorem RDev.kp (h : RDev w B rp vl vw n D way left off ops) {ts : List TypeId} {B' : Nat} (hk : Kp ts B' w w') (h1 : tRDev ∉ ts) (h2 : tStr ∉ ts) (h3 : tRWr ∉ ts) : RDev w' B rp vl vw n D way left off ops :=
  ⟨h.box.kp hk h1, ownsRow_kp h.strs hk h2, ownsRow_kp h.wrs hk h3, h.dl, h.good, h.rpB, h.room⟩
theorem RDev.boxed (h : RDev w B rp vl vw n D way left off ops) {left' ops' : Nat} {off' : Bool} (h1 : Has w' rp (rboxL vl vw left' off' ops') 38) (hb : But w.heap.size rp w w') : RDev w' B rp vl vw n D way left' off' ops' :=
  ⟨h1, ownsRow_but h.strs hb (Nat.le_refl _) (own_type h.strs h.box (by decide)), ownsRow_but h.wrs hb (Nat.le_refl _) (own_type h.wrs h.box (by decide)), h.dl, h.good, h.rpB, h.room⟩
theorem RDev.emptied (h : RDev w B rp vl vw n D way left off ops) {left' ops' : Nat} {off' : Bool} (h1 : Has w' rp (rboxL vl (.slice none 0 0) left' off' ops') 38) (hb : But w.heap.size rp w w') : RDev w' B rp vl (.slice none 0 0) n D [] left' off' ops' :=
  ⟨h1, ownsRow_but h.strs hb (Nat.le_refl _) (own_type h.strs h.box (by decide)), World.ownsRow_nil _ _ _ _, h.dl, Good.nil n, h.rpB, h.room⟩
theorem RDev.elem (h : RDev w B rp vl vw n D way left off ops) {k : Nat} (hk : k < way.length) : ∃ g cap, vw = .slice (some ⟨g, 0, none⟩) way.length cap ∧
    w.cell? ⟨g, k * 2, none⟩ = some (.int .i64 ((way.getD k (0, [])).1 : Int)) ∧ w.cell? ⟨g, k * 2 + 1, none⟩ = some (.string (bs (way.getD k (0, [])).2)) := by
  obtain ⟨g, cap, rfl, hb, hlt⟩ := h.wrs.form (by omega)
  refine ⟨g, cap, rfl, ?_, ?_⟩
  · rw [h.wrs.cellAt _ (by omega), rwayV_at way k hk]
  · rw [h.wrs.cellAt _ (by omega), rwayV_str way k hk]
theorem RDev.line (h : RDev w B rp vl vw n D way left off ops) {i : Nat} (hi : i < n) : ∃ g cap, vl = .slice (some ⟨g, 0, none⟩) n cap ∧ w.cell? ⟨g, i, none⟩ = some (.string (bs (sec D i))) ∧ w.frozen? ⟨g, i, none⟩ = false := by
  obtain ⟨g, cap, rfl, hb, hlt⟩ := h.strs.form (by omega)
  refine ⟨g, cap, rfl, ?_, h.strs.frozenAt i⟩
  rw [h.strs.cellAt _ (by omega), strV_get hi]
theorem RDev.vform (h : RDev w B rp vl vw n D way left off ops) : ∃ a cap, vw = .slice a way.length cap := by
  rcases h.wrs.2 with ⟨e, h0⟩ | ⟨g, cap, cur, e, _⟩
  · exact ⟨none, 0, by rw [e, h0]⟩
  · exact ⟨_, _, e⟩
theorem RDev.lform (h : RDev w B rp vl vw n D way left off ops) : ∃ a cap, vl = .slice a n cap := by
  rcases h.strs.2 with ⟨e, h0⟩ | ⟨g, cap, cur, e, _⟩
  · exact ⟨none, 0, by rw [e, h0]⟩
  · exact ⟨_, _, e⟩
/-- A line is laid anew. -/
theorem RDev.laid {g cap : Nat} (h : RDev w B rp (.slice (some ⟨g, 0, none⟩) n cap) vw n D way left off ops) {i : Nat} (hi : i < n) {D' : List UInt8} (hl : D'.length = 256 * n) (hs : ∀ j, j < n → j ≠ i → sec D' j = sec D j) :
    RDev (w.setCell ⟨g, i, none⟩ (.string (bs (sec D' i)))) B rp (.slice (some ⟨g, 0, none⟩) n cap) vw n D' way left off ops ∧ Kp refT B w (w.setCell ⟨g, i, none⟩ (.string (bs (sec D' i)))) := by
  obtain ⟨h1, h2⟩ := h.strs.stored i (.string (bs (sec D' i)))
  rw [strV_set hi hs] at h1
  have hk : Kp refT B w (w.setCell ⟨g, i, none⟩ (.string (bs (sec D' i)))) := Kp.grown (v := .slice (some ⟨g, 0, none⟩) n cap) h2 h.strs (Nat.le_refl _) (by decide)
  refine ⟨⟨?_, h1, ?_, hl, h.good, h.rpB, h.room⟩, hk⟩
  · exact h.box.setOther (a := ⟨g, i, none⟩) (fun e => own_type h.strs h.box (by decide) (by rw [e]; rfl)) _
  · refine ownsRow_but (b := g) h.wrs ⟨h2.os, h2.tape, h2.output, h2.size, fun k hk hne => h2.block k hk (by simpa using hne)⟩ (Nat.le_refl _) ?_
    intro e
    rcases h.strs.2 with ⟨e0, _⟩ | ⟨g', cap', cur, e0, _, hg, _⟩
    · cases e0
    · cases e0
      exact own_type (L := cur.toList) h.wrs (show Has w g cur.toList 9 by unfold Has; rw [hg]) (by decide) e
end

set_option maxHeartbeats 2000000 in
theorem rbegin_any {w : World} {rp : Nat} {vl vw : Value} {left ops : Nat} (hb : Has w rp (rboxL vl vw left false ops) 38) (hl : left ≤ 9223372036854775807) (ho : ops < 4611686018427387904) (O : Bool) (hO : O = decide (left = 1)) :
    Calls Try.prog 29 #[.pointer (some ⟨rp, 0, none⟩)] w fun e w' => e = .returned (.bool (!O)) ∧ Has w' rp (rboxL vl vw (left - 1) O (ops + 1)) 38 ∧ But w.heap.size rp w w' := by
  have c2 := hb.cellAt (i := 2) rfl
  have c3 := hb.cellAt (i := 3) rfl
  have c4 := hb.cellAt (i := 4) rfl
  have f2 := hb.frozen 2
  have f3 := hb.frozen 3
  have f4 := hb.frozen 4
  have HB := Lib.hid hb
  have HO := Lib.hid hO
  clear hb hO
  by_cases h0 : left = 0
  · subst h0
    obtain rfl : O = false := HO.out
    have h1 : ¬ (0 : Int) < ((0 : Nat) : Int) := by omega
    go_enter Try.func29, Try.ntmps29
    go_wp2_with fail
    go_ret
    exact ⟨rfl, HB.out.set 4 _, (But.refl _ _ _).setB 4 _⟩
  · have h1 : (0 : Int) < (left : Int) := by omega
    by_cases hl1 : left = 1
    · subst hl1
      obtain rfl : O = true := HO.out
      clear h0
      go_enter Try.func29, Try.ntmps29
      go_wp2_with fail
      go_ret
      exact ⟨rfl, ((HB.out.set 4 _).set 2 _).set 3 _, (((But.refl _ _ _).setB 4 _).setB 2 _).setB 3 _⟩
    · obtain rfl : O = false := by rw [HO.out]; simpa using hl1
      obtain ⟨m, rfl⟩ : ∃ m, left = m + 1 := ⟨left - 1, by omega⟩
      have h2 : ((((m + 1 : Nat) : Int) - 1) == 0) = false := by simp; omega
      have h3 : (((m : Nat) : Int) == 0) = false := by simp; omega
      have e1 : (((m + 1 : Nat) : Int) - 1) = (m : Int) := by omega
      have E1 := Lib.hid e1
      clear h0 hl1 e1
      go_enter Try.func29, Try.ntmps29
      go_wp2_with fail
      go_ret
      refine ⟨rfl, ?_, ((But.refl _ _ _).setB 4 _).setB 2 _⟩
      have h := (HB.out.set 4 (.int .i64 ((ops + 1 : Nat) : Int))).set 2 (.int .i64 (((m + 1 : Nat) : Int) - 1))
      rw [E1.out] at h
      first | exact h | (have h := (HB.out.set 4 (.int .i64 ((ops + 1 : Nat) : Int))).set 2 (.int .i64 (m : Int)); exact h) | (rw [← E1.out]; exact h)

end Go.Proofs.Ytjidiholhhdanaa
