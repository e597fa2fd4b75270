/-
  The six ways in which a name comes twice: what an expr does there. Conditions: the parser's block; the tokens' forms.
-/
import Derived.Test.YtnajafnbickiiaaDoorPTwG
import Derived.Test.YtnajafnbickiiaaDoorPAll
namespace Go.Proofs.YtnajafnbickiiaaDoor
open Go.RowKit
set_option linter.unusedVariables false
set_option maxRecDepth 100000

/-- A token of this kind and text. -/
structure IsTk (t : Tk) (k : Nat) (s : List UInt8) : Prop where
  k : t.kind = k
  s : t.text = s
def tkB (t : Tk) (k : Nat) (s : List UInt8) : Bool := t.kind == k && t.text == s
theorem tkB_iff {t : Tk} {k : Nat} {s : List UInt8} : tkB t k s = true ↔ IsTk t k s := by
  simp only [tkB, Bool.and_eq_true, beq_iff_eq]
  exact ⟨fun h => ⟨h.1, h.2⟩, fun h => ⟨h.1, h.2⟩⟩
theorem IsTk.st {t : Tk} {r : List Tk} {k : Nat} {s : List UInt8} (h : IsTk t k s) (hk : k = 4 ∨ k = 2) : stT (t :: r) 0 s = true := by
  simp [stT, h.s, h.k, hk]
theorem IsTk.no {t : Tk} {r : List Tk} {k : Nat} {s u : List UInt8} (h : IsTk t k s) (hu : s ≠ u) : stT (t :: r) 0 u = false := by
  simp [stT, h.s, hu]
theorem IsTk.nm {t : Tk} {r : List Tk} {s : List UInt8} (h : IsTk t 1 s) : nmT (t :: r) 0 = true := by simp [nmT, h.k]
theorem IsTk.nn {t : Tk} {r : List Tk} {k : Nat} {s : List UInt8} (h : IsTk t k s) (hk : k ≠ 1) : nmT (t :: r) 0 = false := by simp [nmT, h.k, hk]

/-- A number or a name alone, ahead of a ; or a ). -/
theorem pg_leaf {t u : Tk} {q : List Tk} {d : Nat} (hd : d < 59) (ht : t.kind = 3 ∨ t.kind = 1) (hu : IsTk u 4 [59] ∨ IsTk u 4 [41]) : ∃ x, pg 8 .expr d (t :: u :: q) = .ok x (u :: q) := by
  have h0 : ∀ s, stT (t :: u :: q) 0 s = false := fun s => by rcases ht with h | h <;> simp [stT, h]
  have h1 : ∀ s, s ≠ [59] → s ≠ [41] → stT (u :: q) 0 s = false := fun s ha hb => by
    rcases hu with h | h
    · exact h.no (Ne.symm ha)
    · exact h.no (Ne.symm hb)
  have h2 : stT (t :: u :: q) 1 [58] = false := h1 [58] (by decide) (by decide)
  have h3 : signT (u :: q) = none := by
    unfold signT
    rw [List.find?_eq_none]
    intro x hx
    have : x.1 ≠ [59] ∧ x.1 ≠ [41] := by
      revert x hx
      decide
    rw [h1 x.1 this.1 this.2]; simp
  have h4 : thingT (u :: q) = false := by
    have hk : u.kind = 4 := by rcases hu with h | h <;> exact h.k
    simp [thingT, hk, h1]
  have h5 : thingT (t :: u :: q) = true := by rcases ht with h | h <;> simp [thingT, h]
  have hd0 : ¬ d = 60 := by omega
  have hd1 : ¬ d + 1 = 60 := by omega
  rcases ht with h | h <;> simp [pg, h0, h1, h2, h3, h4, h5, h, hd0, hd1]

theorem PBB.mono {B B' pb g d : Nat} {rm : Int} {p er : Nat} {w w' : World} {e : Ending} (h : PBB B pb g d rm p er w e w') (hB : B' ≤ B) : PBB B' pb g d rm p er w e w' := ⟨h.1, h.2.1.mono hB, h.2.2⟩
theorem PN.of {X pb g d : Nat} {rm : Int} {s : ByteArray} {r : List Tk} {w w' : World} {e : Ending} (h : PN X pb g d rm s r w e w') : e = .returned (.tuple #[]) ∧ S1 w' X s ∧ But X pb w w' ∧ ∃ o c, Ps w' pb g o c r d rm := h
theorem leaf_reads {pb g d : Nat} {rm : Int} {t u : Tk} {q : List Tk} (hd : d < 59) (ht : t.kind = 3 ∨ t.kind = 1) (hu : IsTk u 4 [59] ∨ IsTk u 4 [41]) :
    ∃ x, ∀ (W : World) (o c : Nat), Ps W pb g o c (t :: u :: q) d rm → Calls Tryd.prog 14 #[.pointer (some ⟨pb, 0, none⟩)] W (PX pb g d rm W x (u :: q)) := by
  obtain ⟨x, hx⟩ := pg_leaf (q := q) hd ht hu
  exact ⟨x, fun W o c hp => (all_ok pb g rm 8 d (by omega)).expr W o c _ x _ hp hx⟩

section
variable {pb g d X k a : Nat} {rm : Int}
theorem k0 (hpx : pb < X) : ∀ w w', S0 w X k a → But w.heap.size pb w w' → S0 w' X k a := fun _ _ h hb => h.but hb hpx
theorem k1 (hpx : pb < X) (s : ByteArray) : ∀ w w', S1 w X s → But w.heap.size pb w w' → S1 w' X s := fun _ _ h hb => h.but hb hpx

/-- a = 1 ; a -/
theorem binds_aa {W : World} {o c : Nat} {a1 eq n1 sc a2 : Tk} {r : List Tk} (hd : d < 59) (h1 : IsTk a1 1 [97]) (h2 : IsTk eq 4 [61]) (h3 : n1.kind = 3) (h4 : IsTk sc 4 [59]) (h5 : IsTk a2 1 [97])
    (hp : Ps W pb g o c (a1 :: eq :: n1 :: sc :: a2 :: r) d rm) (hs : S0 W X k a) (hpx : pb < X) (hgx : g < X) :
    Calls Tryd.prog 45 #[.pointer (some ⟨pb, 0, none⟩), .pointer (some ⟨X, 0, none⟩)] W (PBB X pb g d rm a2.at_ 7 W) := by
  obtain ⟨x, hx⟩ := leaf_reads (pb := pb) (g := g) (rm := rm) (t := n1) (u := sc) (q := a2 :: r) hd (.inl h3) (.inl h4)
  refine binds_bad (SA := fun w => S0 w X k a) (SB := fun w => S1 w X ⟨a1.text.toArray⟩) (tsB := a2 :: r) (k0 hpx) (k1 hpx _) (fun _ h => h.lt) (fun _ h => h.lt) ?_ ?_ (by simp) (.inl ⟨o, c, hp, hs⟩)
  · exact .inl ⟨h1.nm, fun W2 o2 c2 hp2 hs2 => (bind_ok hp2 h1.k (h2.st (.inl rfl)) hs2 hpx hgx x (h4.st (.inl rfl)) hx).mono fun e w' h => h.of⟩
  · exact .inl ⟨h5.nm, fun W2 o2 c2 hp2 hs2 => (bind_bad hp2 h5.k (by rw [h5.s, ← h1.s]; exact hs2) hpx).mono fun e w' h => h.mono (Nat.le_of_lt hs2.lt)⟩
/-- a = 1 ; inherit a -/
theorem binds_ai {W : World} {o c : Nat} {a1 eq n1 sc ih a2 : Tk} {r : List Tk} (hd : d < 59) (h1 : IsTk a1 1 [97]) (h2 : IsTk eq 4 [61]) (h3 : n1.kind = 3) (h4 : IsTk sc 4 [59]) (h6 : IsTk ih 2 [105, 110, 104, 101, 114, 105, 116]) (h5 : IsTk a2 1 [97])
    (hp : Ps W pb g o c (a1 :: eq :: n1 :: sc :: ih :: a2 :: r) d rm) (hs : S0 W X k a) (hpx : pb < X) (hgx : g < X) :
    Calls Tryd.prog 45 #[.pointer (some ⟨pb, 0, none⟩), .pointer (some ⟨X, 0, none⟩)] W (PBB X pb g d rm a2.at_ 7 W) := by
  obtain ⟨x, hx⟩ := leaf_reads (pb := pb) (g := g) (rm := rm) (t := n1) (u := sc) (q := ih :: a2 :: r) hd (.inl h3) (.inl h4)
  refine binds_bad (SA := fun w => S0 w X k a) (SB := fun w => S1 w X ⟨a1.text.toArray⟩) (tsB := ih :: a2 :: r) (k0 hpx) (k1 hpx _) (fun _ h => h.lt) (fun _ h => h.lt) ?_ ?_ (by simp) (.inl ⟨o, c, hp, hs⟩)
  · exact .inl ⟨h1.nm, fun W2 o2 c2 hp2 hs2 => (bind_ok hp2 h1.k (h2.st (.inl rfl)) hs2 hpx hgx x (h4.st (.inl rfl)) hx).mono fun e w' h => h.of⟩
  · refine .inr ⟨h6.nn (by decide), ih, a2 :: r, rfl, h6.st (.inr rfl), fun W2 o2 c2 hp2 hs2 => ?_⟩
    refine inh_bad (t := a2) (u := a2) (r := r) hp2 (h5.no (by decide)) h5.k h5.k rfl (fun w' hb => .inl ⟨o2, c2, hp2.later hb, ?_⟩) hs2.lt hpx hgx
    have := hs2.below hb
    rw [h1.s, ← h5.s] at this
    exact this
/-- inherit ( b ) a ; a -/
theorem binds_ia {W : World} {o c : Nat} {ih lp n1 rp a1 sc a2 : Tk} {r : List Tk} (hd : d < 59) (h6 : IsTk ih 2 [105, 110, 104, 101, 114, 105, 116]) (h7 : IsTk lp 4 [40]) (h3 : n1.kind = 1) (h8 : IsTk rp 4 [41]) (h1 : IsTk a1 1 [97]) (h4 : IsTk sc 4 [59]) (h5 : IsTk a2 1 [97])
    (hp : Ps W pb g o c (ih :: lp :: n1 :: rp :: a1 :: sc :: a2 :: r) d rm) (hs : S0 W X k a) (hpx : pb < X) (hgx : g < X) :
    Calls Tryd.prog 45 #[.pointer (some ⟨pb, 0, none⟩), .pointer (some ⟨X, 0, none⟩)] W (PBB X pb g d rm a2.at_ 7 W) := by
  obtain ⟨x, hx⟩ := leaf_reads (pb := pb) (g := g) (rm := rm) (t := n1) (u := rp) (q := a1 :: sc :: a2 :: r) hd (.inr h3) (.inr h8)
  refine binds_bad (SA := fun w => S0 w X k a) (SB := fun w => S1 w X ⟨a1.text.toArray⟩) (tsB := a2 :: r) (k0 hpx) (k1 hpx _) (fun _ h => h.lt) (fun _ h => h.lt) ?_ ?_ (by simp) (.inl ⟨o, c, hp, hs⟩)
  · exact .inr ⟨h6.nn (by decide), ih, _, rfl, h6.st (.inr rfl), fun W2 o2 c2 hp2 hs2 => (inh_ok hp2 (h7.st (.inl rfl)) x hx (h8.st (.inl rfl)) h1.k (h4.st (.inl rfl)) (by rw [h4.k]; decide) hs2 hpx hgx).mono fun e w' h => h.of⟩
  · exact .inl ⟨h5.nm, fun W2 o2 c2 hp2 hs2 => (bind_bad hp2 h5.k (by rw [h5.s, ← h1.s]; exact hs2) hpx).mono fun e w' h => h.mono (Nat.le_of_lt hs2.lt)⟩
/-- inherit a a -/
theorem binds_ii {W : World} {o c : Nat} {ih a1 a2 : Tk} {r : List Tk} (h6 : IsTk ih 2 [105, 110, 104, 101, 114, 105, 116]) (h1 : IsTk a1 1 [97]) (h5 : IsTk a2 1 [97])
    (hp : Ps W pb g o c (ih :: a1 :: a2 :: r) d rm) (hs : S0 W X k a) (hpx : pb < X) (hgx : g < X) :
    Calls Tryd.prog 45 #[.pointer (some ⟨pb, 0, none⟩), .pointer (some ⟨X, 0, none⟩)] W (PBB X pb g d rm a2.at_ 7 W) := by
  refine binds_bad (SA := fun w => False) (SB := fun w => S0 w X k a) (tsA := ih :: ih :: a1 :: a2 :: r) (tsB := ih :: a1 :: a2 :: r) (fun _ _ h => h.elim) (k0 hpx) (fun _ h => h.elim) (fun _ h => h.lt) ?_ ?_ (by simp) (.inr ⟨o, c, hp, hs⟩)
  · exact .inr ⟨h6.nn (by decide), ih, _, rfl, h6.st (.inr rfl), fun W2 o2 c2 hp2 hs2 => hs2.elim⟩
  · refine .inr ⟨h6.nn (by decide), ih, _, rfl, h6.st (.inr rfl), fun W2 o2 c2 hp2 hs2 => ?_⟩
    exact inh_bad (t := a2) (u := a1) (r := r) hp2 (h1.no (by decide)) h5.k h1.k (by rw [h1.s, h5.s]) (fun w' hb => .inr ⟨o2, c2, k, a, hp2.later hb, hs2.below hb⟩) hs2.lt hpx hgx
end

/-- A set that gives up in its binds. -/
theorem expr_of_set {pb g p : Nat} {rm : Int} {lb : Tk} {r : List Tk} (hlb : IsTk lb 4 [123]) {W : World} {o c : Nat} (hp : Ps W pb g o c (lb :: r) 0 rm)
    (hip : ∀ (W : World), Ps W pb g o c (lb :: r) (0 + 1) rm → Calls Tryd.prog 28 #[.pointer (some ⟨pb, 0, none⟩)] W fun e w' => e = .returned (.bool false) ∧ Below W.heap.size W w')
    (hb : ∀ (W : World) (X o c : Nat), Ps W pb g o c r (0 + 1 + 1) rm → S0 W X 5 lb.at_ → pb < X → g < X → Calls Tryd.prog 45 #[.pointer (some ⟨pb, 0, none⟩), .pointer (some ⟨X, 0, none⟩)] W (PBB X pb g (0 + 1 + 1) rm p 7 W)) :
    Calls Tryd.prog 14 #[.pointer (some ⟨pb, 0, none⟩)] W (PB pb g 0 rm p 7 W) := by
  refine expr_set_bad hp (by omega) (by rw [hlb.nn (by decide)]; rfl) hip (by simp [noWord, hlb.no]) p 7 fun W2 h2 => ?_
  refine op_bad h2 p 7 1 fun W3 h3 => ?_
  refine pre_bad h3 p 7 (hlb.no (by decide)) (hlb.no (by decide)) fun W4 h4 => ?_
  refine sel_bad h4 p 7 fun W5 h5 => ?_
  exact thing_set_bad h5 (by omega) hlb.k hlb.s p 7 fun W6 o6 c6 h6 => set_bad h6 p 7 fun W7 X o7 c7 h7 s7 hx hg => hb W7 X o7 c7 h7 s7 hx hg
theorem expr_of_rec {pb g p : Nat} {rm : Int} {rc lb : Tk} {r : List Tk} (hrc : IsTk rc 2 [114, 101, 99]) (hlb : IsTk lb 4 [123]) {W : World} {o c : Nat} (hp : Ps W pb g o c (rc :: lb :: r) 0 rm)
    (hb : ∀ (W : World) (X o c : Nat), Ps W pb g o c r (0 + 1 + 1) rm → S0 W X 6 rc.at_ → pb < X → g < X → Calls Tryd.prog 45 #[.pointer (some ⟨pb, 0, none⟩), .pointer (some ⟨X, 0, none⟩)] W (PBB X pb g (0 + 1 + 1) rm p 7 W)) :
    Calls Tryd.prog 14 #[.pointer (some ⟨pb, 0, none⟩)] W (PB pb g 0 rm p 7 W) := by
  refine expr_bad hp (by omega) (by rw [hrc.nn (by decide)]; rfl) (hrc.no (by decide)) (by simp [noWord, hrc.no]) p 7 fun W2 h2 => ?_
  refine op_bad h2 p 7 1 fun W3 h3 => ?_
  refine pre_bad h3 p 7 (hrc.no (by decide)) (hrc.no (by decide)) fun W4 h4 => ?_
  refine sel_bad h4 p 7 fun W5 h5 => ?_
  exact thing_rec_bad h5 (by omega) hrc.k hrc.s p 7 (hlb.st (.inl rfl)) ⟨_, _, rfl⟩ fun W6 o6 c6 h6 => set_bad h6 p 7 fun W7 X o7 c7 h7 s7 hx hg => hb W7 X o7 c7 h7 s7 hx hg

/-- The six forms. -/
def form (p : Nat) : Nat → List Tk → Bool
  | 0, lb :: a1 :: eq :: n1 :: sc :: a2 :: _ => tkB lb 4 [123] && tkB a1 1 [97] && tkB eq 4 [61] && n1.kind == 3 && tkB sc 4 [59] && tkB a2 1 [97] && a2.at_ == p
  | 1, lt :: a1 :: eq :: n1 :: sc :: a2 :: _ => tkB lt 2 [108, 101, 116] && tkB a1 1 [97] && tkB eq 4 [61] && n1.kind == 3 && tkB sc 4 [59] && tkB a2 1 [97] && a2.at_ == p
  | 2, rc :: lb :: a1 :: eq :: n1 :: sc :: ih :: a2 :: _ => tkB rc 2 [114, 101, 99] && tkB lb 4 [123] && tkB a1 1 [97] && tkB eq 4 [61] && n1.kind == 3 && tkB sc 4 [59] && tkB ih 2 [105, 110, 104, 101, 114, 105, 116] && tkB a2 1 [97] && a2.at_ == p
  | 3, lb :: a1 :: cm :: a2 :: _ => tkB lb 4 [123] && tkB a1 1 [97] && tkB cm 4 [44] && tkB a2 1 [97] && a2.at_ == p
  | 4, lb :: ih :: lp :: n1 :: rp :: a1 :: sc :: a2 :: _ => tkB lb 4 [123] && tkB ih 2 [105, 110, 104, 101, 114, 105, 116] && tkB lp 4 [40] && n1.kind == 1 && tkB rp 4 [41] && tkB a1 1 [97] && tkB sc 4 [59] && tkB a2 1 [97] && a2.at_ == p
  | 5, lb :: ih :: a1 :: a2 :: _ => tkB lb 4 [123] && tkB ih 2 [105, 110, 104, 101, 114, 105, 116] && tkB a1 1 [97] && tkB a2 1 [97] && a2.at_ == p
  | _, _ => false

theorem form_bad {pb g p : Nat} {rm : Int} (i : Nat) {ts : List Tk} (h : form p i ts = true) {W : World} {o c : Nat} (hp : Ps W pb g o c ts 0 rm) :
    Calls Tryd.prog 14 #[.pointer (some ⟨pb, 0, none⟩)] W (PB pb g 0 rm p 7 W) := by
  unfold form at h
  split at h
  · rename_i lb a1 eq n1 sc a2 r
    simp only [Bool.and_eq_true, beq_iff_eq, tkB_iff] at h
    obtain ⟨⟨⟨⟨⟨⟨h1, h2⟩, h3⟩, h4⟩, h5⟩, h6⟩, rfl⟩ := h
    refine expr_of_set h1 hp (fun W2 h => ispat_set h (by simp) (h1.st (.inl rfl)) (h2.nm (r := eq :: n1 :: sc :: a2 :: r)) (h3.no (r := n1 :: sc :: a2 :: r) (by decide)) (h3.no (r := n1 :: sc :: a2 :: r) (by decide)) (h3.no (r := n1 :: sc :: a2 :: r) (by decide))) fun W2 X o2 c2 hp2 hs hx hg => ?_
    exact binds_aa (by omega) h2 h3 h4 h5 h6 hp2 hs hx hg
  · rename_i lt a1 eq n1 sc a2 r
    simp only [Bool.and_eq_true, beq_iff_eq, tkB_iff] at h
    obtain ⟨⟨⟨⟨⟨⟨h1, h2⟩, h3⟩, h4⟩, h5⟩, h6⟩, rfl⟩ := h
    refine expr_let_bad hp (by omega) (h1.nn (by decide)) (h1.no (by decide)) lt _ rfl (h1.st (.inr rfl)) a2.at_ 7 fun W2 o2 c2 h2b => ?_
    exact let_bad h2b a2.at_ 7 fun W3 X o3 c3 hp3 hs hx hg => binds_aa (by omega) h2 h3 h4 h5 h6 hp3 hs hx hg
  · rename_i rc lb a1 eq n1 sc ih a2 r
    simp only [Bool.and_eq_true, beq_iff_eq, tkB_iff] at h
    obtain ⟨⟨⟨⟨⟨⟨⟨⟨h0, h1⟩, h2⟩, h3⟩, h4⟩, h5⟩, h7⟩, h6⟩, rfl⟩ := h
    exact expr_of_rec h0 h1 hp fun W2 X o2 c2 hp2 hs hx hg => binds_ai (by omega) h2 h3 h4 h5 h7 h6 hp2 hs hx hg
  · rename_i lb a1 cm a2 r
    simp only [Bool.and_eq_true, beq_iff_eq, tkB_iff] at h
    obtain ⟨⟨⟨⟨h1, h2⟩, h3⟩, h4⟩, rfl⟩ := h
    refine expr_pat_bad hp (by omega) (h1.nn (by decide)) (fun W2 h => ispat_pat h (by simp) (h1.st (.inl rfl)) (h2.nm (r := cm :: a2 :: r)) (h3.st (r := a2 :: r) (.inl rfl))) a2.at_ 7 fun W2 h2b => ?_
    refine pattern_bad h2b (by rw [h1.k]; decide) (h2.no (by decide)) a2.at_ 7 fun W3 X o3 c3 hp3 hs hx hg => ?_
    exact (args_bad hp3 h4.k h2.k (by rw [h2.s, h4.s]) (h3.st (.inl rfl)) hs hx hg)
  · rename_i lb ih lp n1 rp a1 sc a2 r
    simp only [Bool.and_eq_true, beq_iff_eq, tkB_iff] at h
    obtain ⟨⟨⟨⟨⟨⟨⟨⟨h1, h2⟩, h3⟩, h4⟩, h5⟩, h6⟩, h7⟩, h8⟩, rfl⟩ := h
    refine expr_of_set h1 hp (fun W2 h => ispat_inh h (by simp) (h1.st (.inl rfl)) (h2.nn (r := lp :: n1 :: rp :: a1 :: sc :: a2 :: r) (by decide)) (h2.no (r := lp :: n1 :: rp :: a1 :: sc :: a2 :: r) (by decide)) (h2.no (r := lp :: n1 :: rp :: a1 :: sc :: a2 :: r) (by decide))) fun W2 X o2 c2 hp2 hs hx hg => ?_
    exact binds_ia (by omega) h2 h3 h4 h5 h6 h7 h8 hp2 hs hx hg
  · rename_i lb ih a1 a2 r
    simp only [Bool.and_eq_true, beq_iff_eq, tkB_iff] at h
    obtain ⟨⟨⟨⟨h1, h2⟩, h3⟩, h4⟩, rfl⟩ := h
    refine expr_of_set h1 hp (fun W2 h => ispat_inh h (by simp) (h1.st (.inl rfl)) (h2.nn (r := a1 :: a2 :: r) (by decide)) (h2.no (r := a1 :: a2 :: r) (by decide)) (h2.no (r := a1 :: a2 :: r) (by decide))) fun W2 X o2 c2 hp2 hs hx hg => ?_
    exact binds_ii h2 h3 h4 hp2 hs hx hg
  · cases h
end Go.Proofs.YtnajafnbickiiaaDoor
