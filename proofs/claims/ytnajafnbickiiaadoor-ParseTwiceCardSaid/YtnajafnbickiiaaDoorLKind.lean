/-
  The contract of the lexer's kind: what is open behind a sign. Conditions: bounds on the numbers.
-/
import Derived.Test.YtnajafnbickiiaaDoorLAdd
import Derived.BigQuiet
namespace Go.Proofs.YtnajafnbickiiaaDoor
open Go.RowKit
set_option linter.unusedVariables false

/-- The kind of a sign's token, and what is open behind it. -/
def kindL (g : List UInt8) (p : List Nat) : Nat × Bool × List Nat :=
  match p with
  | [] => (4, false, [])
  | m :: r => if g = [123] then (4, false, (m + 1) :: r) else if g = [125] then (if 0 < m then (4, false, (m - 1) :: r) else (8, true, r)) else (4, false, m :: r)
theorem kindL_open (m : Nat) (r : List Nat) : kindL [123] (m :: r) = (4, false, (m + 1) :: r) := rfl
theorem kindL_pos {m : Nat} (r : List Nat) (h : 0 < m) : kindL [125] (m :: r) = (4, false, (m - 1) :: r) := by simp [kindL, h]
theorem kindL_zero (r : List Nat) : kindL [125] (0 :: r) = (8, true, r) := rfl
theorem kindL_other {g : List UInt8} {m : Nat} (r : List Nat) (h1 : g ≠ [123]) (h2 : g ≠ [125]) : kindL g (m :: r) = (4, false, m :: r) := by simp [kindL, h1, h2]
theorem signTok_kind (g : List UInt8) (a : Nat) (p : List Nat) : signTok g a p = ([⟨(kindL g p).1, g, a⟩], g.length, (kindL g p).2.1, (kindL g p).2.2) := by
  cases p with
  | nil => rfl
  | cons m r =>
    by_cases h1 : g = [123]
    · subst h1; rfl
    · by_cases h2 : g = [125]
      · subst h2
        by_cases hm : 0 < m
        · simp [signTok, kindL, hm]
        · obtain rfl : m = 0 := by omega
          rfl
      · simp [signTok, kindL, h1, h2]

theorem lx_put {B lb a : Nat} {w0 w : World} {s : ByteArray} {ts : List Tk} {q : Bool} {m : Nat} {r : List Nat} {vl : Value} {g cap : Nat}
    (h1 : Has w lb [.string s, .int .i64 (a : Int), vl, .bool q, .slice (some ⟨g, 0, none⟩) (r.length + 1) cap] 41) (h2 : w.ownsRow B 50 3 vl ts.length (tksC ts)) (h3 : w.ownsRow B 3 1 (.slice (some ⟨g, 0, none⟩) (r.length + 1) cap) (r.length + 1) ((m :: r).reverse.map iv)) (h4 : Below B w0 w) (h5 : B ≤ lb) (m' : Nat) :
    Lx B lb w0 s a ts q (m' :: r) (w.setCell ⟨g, r.length, none⟩ (.int .i64 (m' : Int))) := by
  have hst := (h3.stored r.length (iv m')).1
  obtain ⟨g', cap', cur, he, hb, hg, h6, h7, h8, h9⟩ := h3.2.resolve_left (fun h => by cases h.1)
  cases he
  have hne : lb ≠ g := fun e => by
    have h1' : w.heap[lb]? = some (.cells [.string s, .int .i64 (a : Int), vl, .bool q, .slice (some ⟨g, 0, none⟩) (r.length + 1) cap].toArray 41 (0, 0)) := h1
    rw [e, hg] at h1'; cases h1'
  refine ⟨vl, _, h1.setOther (a := ⟨g, r.length, none⟩) hne _, ?_, ?_, h4.setCell (p := ⟨g, r.length, none⟩) hb _, h5⟩
  · refine h2.kept (row := some g) ⟨rfl, rfl, rfl, by simp [World.setCell], fun k _ hk => heap_setCell_other w ⟨g, r.length, none⟩ k _ (fun e => hk (by simp [e]))⟩ ?_
    exact owns_apart h2 h3 (by decide)
  · have e : ((m' :: r).reverse.map iv) = ((m :: r).reverse.map iv).set r.length (iv m') := by
      rw [List.reverse_cons, List.reverse_cons, List.map_append, List.map_append, List.set_append_right _ _ (by simp)]
      simp
    rw [e]
    exact hst

theorem lx_cut {B lb a : Nat} {w0 w : World} {s : ByteArray} {ts : List Tk} {q : Bool} {m : Nat} {r : List Nat} {vl : Value} {g cap : Nat}
    (h1 : Has w lb [.string s, .int .i64 (a : Int), vl, .bool q, .slice (some ⟨g, 0, none⟩) (r.length + 1) cap] 41) (h2 : w.ownsRow B 50 3 vl ts.length (tksC ts)) (h3 : w.ownsRow B 3 1 (.slice (some ⟨g, 0, none⟩) (r.length + 1) cap) (r.length + 1) ((m :: r).reverse.map iv)) (h4 : Below B w0 w) (h5 : B ≤ lb) :
    Lx B lb w0 s a ts q r (w.setCell ⟨lb, 4, none⟩ (.slice (some ⟨g, 0, none⟩) r.length cap)) := by
  refine ⟨vl, _, h1.set 4 _, owns_set h2 h1 (by decide) 4 _, owns_set ?_ h1 (by decide) 4 _, h4.setCell (p := ⟨lb, 4, none⟩) h5 _, h5⟩
  obtain ⟨g', cap', cur, he, hb, hg, h6, h7, h8, h9⟩ := h3.2.resolve_left (fun h => by cases h.1)
  cases he
  refine ⟨by simp, .inr ⟨g, cap, cur, rfl, hb, hg, by omega, h7, h8, ?_⟩⟩
  have e := congrArg (fun l : List Value => l.take r.length) h9
  simp only [List.take_take, Nat.mul_one] at e
  rw [show min r.length (r.length + 1) = r.length by omega] at e
  rw [Nat.mul_one, e, List.reverse_cons, List.map_append, List.take_append_of_le_length (by simp), List.take_of_length_le (by simp)]

theorem row_some {w : World} {B n size : Nat} {e : TypeId} {v : Value} {xs : List Value} (h : w.ownsRow B e size v n xs) (hn : 0 < n) : ∃ g cap, v = .slice (some ⟨g, 0, none⟩) n cap ∧ n ≤ cap := by
  rcases h.2 with ⟨rfl, h0⟩ | ⟨g, cap, cur', rfl, _, _, hc, _⟩
  · omega
  · exact ⟨g, cap, rfl, hc⟩
theorem row_len {w : World} {B n size : Nat} {e : TypeId} {v : Value} {xs : List Value} (h : w.ownsRow B e size v n xs) : ∃ a cap, v = .slice a n cap := by
  rcases h.2 with ⟨rfl, h0⟩ | ⟨g, cap, cur', rfl, _⟩
  · exact ⟨none, 0, by rw [h0]⟩
  · exact ⟨_, _, rfl⟩

set_option maxRecDepth 100000 in
set_option maxHeartbeats 4000000 in
theorem kind_any (B lb : Nat) (w0 : World) (s : ByteArray) (a : Nat) (ts : List Tk) (p : List Nat) (w : World) (hx : Lx B lb w0 s a ts false p w) (gb : ByteArray) (g : List UInt8) (hg : Hid (gb.data.toList = g)) (hp : p.length ≤ 8000) (hm : ∀ m ∈ p, m ≤ 8000) :
    Calls Tryd.prog 40 #[.pointer (some ⟨lb, 0, none⟩), .string gb] w fun e w' => e = .returned (.int .u8 ((kindL g p).1 : Int)) ∧ Lx B lb w0 s a ts (kindL g p).2.1 (kindL g p).2.2 w' := by
  cases p with
  | nil =>
    have HX := Lib.hid hx
    obtain ⟨vl, vp, h1, h2, h3, h4, h5⟩ := hx
    obtain ⟨va, vc, rfl⟩ := row_len h3
    have c4 := h1.cellAt (i := 4) rfl
    clear h1 h2 h3 h4 h5
    go_enter Tryd.func40, Tryd.ntmps40
    go_wp2_with fail
    go_ret
    exact ⟨rfl, HX.out⟩
  | cons m r =>
    have HX := Lib.hid hx
    obtain ⟨vl, vp, h1, h2, h3, h4, h5⟩ := hx
    obtain ⟨pg, pc, hvp, hle⟩ := row_some h3 (by simp)
    have hvp' : vp = .slice (some ⟨pg, 0, none⟩) (r.length + 1) pc := hvp
    subst hvp'
    have hm8 := hm m (by simp)
    have hr8 : r.length + 1 ≤ 8000 := by simpa using hp
    have hle' : r.length + 1 ≤ pc := by simpa using hle
    have c4 := h1.cellAt (i := 4) rfl
    have c3 := h1.cellAt (i := 3) rfl
    have f4 := h1.frozen 4
    have f3 := h1.frozen 3
    have cm : w.cell? ⟨pg, r.length, none⟩ = some (.int .i64 (m : Int)) := by
      have := h3.cellAt r.length (by simp)
      rw [this, List.reverse_cons, List.map_append, List.getElem?_append_right (by simp)]
      simp [iv]
    have fm : w.frozen? ⟨pg, r.length, none⟩ = false := h3.frozenAt r.length
    have hwr : wrap64 (((r.length + 1 : Nat) : Int) - 1) = (r.length : Int) := by unfold wrap64; omega
    have hlti : ¬ (r.length : Int) < 0 := by omega
    have H1 := Lib.hid h1
    have H2 := Lib.hid h2
    have H3 := Lib.hid h3
    have H4 := Lib.hid h4
    have H5 := Lib.hid h5
    clear h1 h2 h3 h4 h5 hvp hle hm hp
    have htl : gb.toList = g := by rw [ByteArray.toList_eq]; exact hg.out
    by_cases g1 : g = [123]
    · have e1 : (gb.toList == [123]) = true := by rw [htl, g1]; rfl
      subst g1
      clear htl
      rw [kindL_open]
      go_enter Tryd.func40, Tryd.ntmps40
      go_wp2_with fail
      go_ret
      exact ⟨rfl, by simpa using lx_put H1.out H2.out H3.out H4.out H5.out (m + 1)⟩
    · have e1 : (gb.toList == [123]) = false := by rw [htl]; simpa using g1
      by_cases g2 : g = [125]
      · have e2 : (gb.toList == [125]) = true := by rw [htl, g2]; rfl
        subst g2
        clear htl g1
        by_cases hm0 : 0 < m
        · have hmi : (0 : Int) < (m : Int) := by omega
          have HM0 := Lib.hid hm0
          rw [kindL_pos r hm0]
          clear hm0
          go_enter Tryd.func40, Tryd.ntmps40
          go_wp2_with fail
          go_ret
          refine ⟨rfl, ?_⟩
          have := lx_put H1.out H2.out H3.out H4.out H5.out (m - 1)
          rw [show ((m - 1 : Nat) : Int) = (m : Int) - 1 by have := HM0.out; omega] at this
          exact this
        · obtain rfl : m = 0 := by omega
          rw [kindL_zero]
          go_enter Tryd.func40, Tryd.ntmps40
          go_wp2_with fail
          go_ret
          exact ⟨rfl, by exact (lx_cut H1.out H2.out H3.out H4.out H5.out).setQ true⟩
      · have e2 : (gb.toList == [125]) = false := by rw [htl]; simpa using g2
        rw [kindL_other r g1 g2]
        clear htl
        go_enter Tryd.func40, Tryd.ntmps40
        go_wp2_with fail
        go_ret
        exact ⟨rfl, HX.out⟩

end Go.Proofs.YtnajafnbickiiaaDoor
