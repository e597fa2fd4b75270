/-
  The contract of the lexer's Tokens. Conditions: the listed variables lie as the text lays them.
-/
import Derived.Test.YtnajafnbickiiaaDoorLNext
import Derived.Test.YtnajafnbickiiaaDoorLCovM
namespace Go.Proofs.YtnajafnbickiiaaDoor
open Go.RowKit
set_option linter.unusedVariables false

theorem kindL_bound (g : List UInt8) (p : List Nat) : (kindL g p).2.2.length ≤ p.length ∧ ∀ M, (∀ x ∈ p, x ≤ M) → ∀ x ∈ (kindL g p).2.2, x ≤ M + 1 := by
  cases p with
  | nil => exact ⟨Nat.le_refl _, fun M _ x hx => by simp [kindL] at hx⟩
  | cons m r =>
    by_cases h1 : g = [123]
    · subst h1
      rw [kindL_open]
      refine ⟨Nat.le_refl _, fun M h x hx => ?_⟩
      rcases List.mem_cons.1 hx with e | e
      · have := h m (by simp); omega
      · have := h x (by simp [e]); omega
    · by_cases h2 : g = [125]
      · subst h2
        by_cases hm : 0 < m
        · rw [kindL_pos r hm]
          refine ⟨Nat.le_refl _, fun M h x hx => ?_⟩
          rcases List.mem_cons.1 hx with e | e
          · have := h m (by simp); omega
          · have := h x (by simp [e]); omega
        · obtain rfl : m = 0 := by omega
          rw [kindL_zero]
          exact ⟨by simp, fun M h x hx => by have := h x (by simp at hx; simp [hx]); omega⟩
      · rw [kindL_other r h1 h2]
        exact ⟨Nat.le_refl _, fun M h x hx => by have := h x hx; omega⟩

/-- What a step makes is no more than it takes. -/
theorem step_bound {l : List UInt8} {a : Nat} {q : Bool} {p : List Nat} {ts : List Tk} {k : Nat} {q' : Bool} {p' : List Nat} (h0 : l ≠ []) (h : stepL l a q p = .ok (ts, k, q', p')) :
    ts.length ≤ 1 ∧ p'.length ≤ p.length + 1 ∧ ∀ M, (∀ x ∈ p, x ≤ M) → ∀ x ∈ p', x ≤ M + 1 := by
  have same : p' = p → p'.length ≤ p.length + 1 ∧ ∀ M, (∀ x ∈ p, x ≤ M) → ∀ x ∈ p', x ≤ M + 1 := fun e => by
    subst e; exact ⟨by omega, fun M h x hx => by have := h x hx; omega⟩
  cases q
  · match l, h0 with
    | c :: t, _ =>
      rw [stepL_plain] at h
      split at h
      · cases h; exact ⟨by simp, same rfl⟩
      · split at h
        · cases h; exact ⟨by simp, same rfl⟩
        · split at h
          · cases h; exact ⟨by simp, same rfl⟩
          · split at h
            · split at h
              · cases h
              · split at h
                · cases h
                · cases h; exact ⟨by simp, same rfl⟩
            · split at h
              · cases h; exact ⟨by simp, same rfl⟩
              · split at h
                · cases h
                · rename_i g hg
                  rw [signTok_kind] at h
                  cases h
                  have := kindL_bound g p
                  exact ⟨by simp, by omega, this.2⟩
  · unfold stepL at h
    rw [if_pos rfl] at h
    split at h
    · cases h; exact ⟨by simp, same rfl⟩
    · split at h
      · cases h
        refine ⟨by simp, by simp, fun M h x hx => ?_⟩
        rcases List.mem_cons.1 hx with e | e
        · omega
        · have := h x e; omega
      · split at h
        · cases h; exact ⟨by simp, same rfl⟩
        · cases h

/-- What Tokens tells. -/
def TokPost (r : Except (Nat × Int) (List Tk)) (w : World) (e : Ending) (w' : World) : Prop :=
  (match r with
    | .error (pl, er) => e = .returned (.tuple #[.slice none 0 0, .int .i64 (pl : Int), .int .i64 er])
    | .ok ts => ∃ v, e = .returned (.tuple #[v, .int .i64 0, .int .i64 0]) ∧ w'.ownsRow w.heap.size 50 3 v ts.length (tksC ts)) ∧ Below w.heap.size w w'
theorem tok_error {r : Except (Nat × Int) (List Tk)} {w w' : World} {e : Ending} {pl : Nat} {er : Int} (h : r = .error (pl, er)) (he : e = .returned (.tuple #[.slice none 0 0, .int .i64 (pl : Int), .int .i64 er])) (hb : Below w.heap.size w w') : TokPost r w e w' := by
  subst h; exact ⟨he, hb⟩
theorem tok_ok {r : Except (Nat × Int) (List Tk)} {w w' : World} {e : Ending} {ts : List Tk} {v : Value} (h : r = .ok ts) (he : e = .returned (.tuple #[v, .int .i64 0, .int .i64 0])) (ho : w'.ownsRow w.heap.size 50 3 v ts.length (tksC ts)) (hb : Below w.heap.size w w') : TokPost r w e w' := by
  subst h; exact ⟨⟨v, he, ho⟩, hb⟩

set_option maxRecDepth 100000 in
set_option maxHeartbeats 8000000 in
theorem tokens_any (s : ByteArray) (w : World) (hl : LaidL w) :
    Calls Tryd.prog 8 #[.string s] w (TokPost (lexTop s.data.toList) w) := by
  have hsz : s.data.toList.length = s.size := by simp
  by_cases h8 : 8000 < s.size
  · have h8i : (8000 : Int) < (s.size : Int) := by omega
    have HR : Hid (lexTop s.data.toList = .error (0, 2)) := Lib.hid (by unfold lexTop; rw [if_pos (by rw [hsz]; exact h8)])
    clear hl hsz
    go_enter Tryd.func8, Tryd.ntmps8
    go_wp2_with fail
    go_ret3
    exact tok_error HR.out rfl (Below.refl _ _)
  have h8i : ¬ (8000 : Int) < (s.size : Int) := by omega
  have hs : s.size ≤ 8000 := by omega
  obtain ⟨RR, hRR⟩ : ∃ RR, RR = lexTop s.data.toList := ⟨_, rfl⟩
  have HRR : Hid (RR = lexA s.data.toList 0 false []) := Lib.hid (by rw [hRR]; unfold lexTop; rw [if_neg (by rw [hsz]; omega)])
  rw [← hRR]
  have HL := Lib.hid hl
  have HSZ := Lib.hid hsz
  clear hRR hl hsz h8
  go_enter Tryd.func8, Tryd.ntmps8
  go_wp2_with fail
  obtain ⟨B, hB⟩ : ∃ B, B = w.heap.size := ⟨_, rfl⟩
  obtain ⟨w1, hw1⟩ : ∃ w1, w1 = w.alloc (.cells #[.string s, .int .i64 0, .slice none 0 0, .bool false, .slice none 0 0] 41) := ⟨_, rfl⟩
  have HX1 : Hid (Lx B B w s 0 [] false [] w1) := Lib.hid (by
    refine ⟨.slice none 0 0, .slice none 0 0, ?_, World.ownsRow_nil _ _ _ _, World.ownsRow_nil _ _ _ _, ?_, Nat.le_refl _⟩
    · rw [hw1, hB]; exact Has.new w [.string s, .int .i64 0, .slice none 0 0, .bool false, .slice none 0 0] _
    · rw [hw1, hB]; exact (Below.refl _ _).alloc (Nat.le_refl _) _)
  rw [← hB, ← hw1]
  have HB := Lib.hid hB
  have HLW : Hid (∀ w', Below B w w' → LaidL w') := Lib.hid (fun w' hb => HL.out.below hb (by rw [hB]; exact HL.out.size))
  clear hw1 hB
  refine (blanks_any B B w s 0 [] false [] w1 HX1.out (Nat.zero_le _) hs).mono ?_
  rintro e w2 ⟨rfl, m0, _, hm0, hx2, hlex2, hnb2⟩
  have HX2 := Lib.hid hx2
  have HLX2 := Lib.hid hlex2
  have HNB2 := Lib.hid hnb2
  clear hx2 hlex2 hnb2
  go_wp2_with fail
  go_loopg [6] (s.size - m0) (fun g v6 wr => ∃ (m : Nat) (ts : List Tk) (q : Bool) (p : List Nat), g = s.size - m ∧ m ≤ s.size ∧ Lx B B w s m ts q p wr ∧ RR = ahead ts (lexA (s.data.toList.drop m) m q p) ∧
    (q = false → m = s.size ∨ (blkL (s.data.toList.getD m 0) = false ∧ (s.data.toList.getD m 0).toNat ≠ 35)) ∧ ts.length ≤ m ∧ p.length ≤ m ∧ (∀ x ∈ p, x ≤ m))
  case atStart =>
    refine ⟨m0, [], false, [], rfl, hm0, HX2.out, ?_, fun _ => ?_, Nat.zero_le _, Nat.zero_le _, fun x hx => by simp at hx⟩
    · rw [ahead_nil, HLX2.out, HRR.out, List.drop_zero]
    · rcases HNB2.out with h | h | h
      · exact absurd h.1 (by simp)
      · exact .inl h
      · exact .inr h
  case round =>
    clear HX2 HLX2 HNB2 HX1
    obtain ⟨m, ts, q, p, rfl, hms, hx, hrr, hnb, htm, hpm, hxm⟩ := hrel
    have HX := Lib.hid hx
    have HR2 := Lib.hid hrr
    have HXM := Lib.hid hxm
    obtain ⟨vl, vp, h1, h2, h3, h4, h5⟩ := hx
    have c1 := h1.cellAt (i := 1) rfl
    have H1 := Lib.hid h1
    have H2 := Lib.hid h2
    have H3 := Lib.hid h3
    have H4 := Lib.hid h4
    clear h1 h2 h3 h4 h5 hrr hxm
    by_cases hlt : m < s.size
    · have hmi : (m : Int) < (s.size : Int) := by omega
      have HNE : Hid (s.data.toList.drop m ≠ []) := Lib.hid (by rw [lexA_cons hlt]; simp)
      have HNB := Lib.hid (show q = false → blkL (s.data.toList.getD m 0) = false ∧ (s.data.toList.getD m 0).toNat ≠ 35 from fun h => (hnb h).resolve_left (by omega))
      clear hnb
      go_wp2_with fail
      refine (next_any B B w s m ts q p wr HX.out hlt hs (by omega) (by omega) (fun x hx => by have := HXM.out x hx; omega) (HLW.out _ H4.out) HNB.out).mono ?_
      intro e w3 hp3
      have HP3 := Lib.hid hp3
      clear hp3 c1
      cases hst : stepL (s.data.toList.drop m) m q p with
      | error r =>
        obtain ⟨pl, er⟩ := r
        have h5 := HP3.out
        unfold NxPost at h5
        rw [hst] at h5
        obtain ⟨rfl, ts', q', p', hx5⟩ := h5
        have HX5 := Lib.hid hx5
        have HRE : Hid (RR = .error (pl, er)) := Lib.hid (by rw [HR2.out, lexA_error HNE.out hst]; rfl)
        have her : ¬ er = 0 := step_err hst
        have heri : (er != 0) = true := by simpa using her
        obtain ⟨vl', vp', k1, _⟩ := hx5
        have c1 := k1.cellAt (i := 1) rfl
        clear hst HP3 k1
        go_wp2_with fail
        go_quiet (fail)
        go_wp2_with fail
        go_ret3
        exact tok_error HRE.out rfl (by have := (HX5.out.drewN nq).below; rw [← HB.out]; exact this)
      | ok r =>
        obtain ⟨ts', k, q', p'⟩ := r
        have h5 := HP3.out
        unfold NxPost at h5
        rw [hst] at h5
        obtain ⟨rfl, hx5⟩ := h5
        have hk := step_some HNE.out hst
        have hkl : m + k ≤ s.size := by have := hk.2; rw [List.length_drop, HSZ.out] at this; omega
        have hbd := step_bound HNE.out hst
        have HBD := Lib.hid hbd
        have HX5 := Lib.hid hx5
        have HR5 : Hid (RR = ahead (ts ++ ts') (lexA (s.data.toList.drop (m + k)) (m + k) q' p')) := Lib.hid (by rw [HR2.out, lexA_ok HNE.out hst, ahead_ahead, List.drop_drop])
        have hk1 := hk.1
        clear hst HP3 hx5 hk hbd
        go_wp2_with fail
        refine (blanks_any B B w s (m + k) (ts ++ ts') q' p' w3 HX5.out hkl hs).mono ?_
        rintro e w6 ⟨rfl, m', hmm, hm', hx6, hlex6, hnb6⟩
        have HX6 := Lib.hid hx6
        have HLX6 := Lib.hid hlex6
        have HNB6 := Lib.hid hnb6
        clear hx6 hlex6 hnb6
        go_wp2_with fail
        go_roundg (s.size - m')
        case rel =>
          refine ⟨m', ts ++ ts', q', p', rfl, hm', HX6.out, by rw [HLX6.out]; exact HR5.out, fun hq => ?_, ?_, ?_, fun x hx => ?_⟩
          · rcases HNB6.out with h | h | h
            · rw [hq] at h; exact absurd h.1 (by simp)
            · exact .inl h
            · exact .inr h
          · have := HBD.out.1; rw [List.length_append]; omega
          · have := HBD.out.2.1; omega
          · have := HBD.out.2.2 m HXM.out x hx; omega
        case measure => omega
    · obtain rfl : m = s.size := by omega
      have hmi : ¬ (s.size : Int) < (s.size : Int) := by omega
      obtain ⟨pa, pc, rfl⟩ := row_len H3.out
      have c3 := H1.out.cellAt (i := 3) rfl
      have c4 := H1.out.cellAt (i := 4) rfl
      have hdn : s.data.toList.drop s.size = [] := List.drop_of_length_le (by rw [HSZ.out]; exact Nat.le_refl _)
      by_cases hend : q = true ∨ p ≠ []
      · have HRE : Hid (RR = .error (s.size, 4)) := Lib.hid (by rw [HR2.out, hdn, lexA_nil, if_pos hend]; rfl)
        clear hnb hdn
        cases q
        · have hpl : (0 : Int) < (p.length : Int) := by
            have : p ≠ [] := hend.resolve_left (by simp)
            have := List.length_pos_iff.2 this
            omega
          clear hend
          go_wp2_with fail
          go_ret3
          exact tok_error HRE.out rfl (by rw [← HB.out]; exact H4.out)
        · clear hend
          go_wp2_with fail
          go_ret3
          exact tok_error HRE.out rfl (by rw [← HB.out]; exact H4.out)
      · obtain rfl : q = false := by cases q with | false => rfl | true => exact absurd (.inl rfl) hend
        obtain rfl : p = [] := by
          by_cases h : p = []
          · exact h
          · exact absurd (.inr h) hend
        have HRE : Hid (RR = .ok (ts ++ [⟨0, [], s.size⟩])) := Lib.hid (by rw [HR2.out, hdn, lexA_nil, if_neg hend]; rfl)
        clear hend hnb hdn
        go_wp2_with fail
        have hadd := add_any B B w s s.size ts false [] wr HX.out 0 0 (by omega) hs (by omega)
        rw [List.take_zero] at hadd
        have HA := Lib.hid hadd
        clear hadd
        refine HA.out.mono ?_
        rintro e w6 ⟨rfl, hx6⟩
        obtain ⟨vl', vp', k1, k2, k3, k4, k5⟩ := hx6
        have K2 := Lib.hid k2
        have K4 := Lib.hid k4
        have c2 := k1.cellAt (i := 2) rfl
        clear k1 k2 k3 k4 k5 c1 c3 c4
        go_wp2_with fail
        go_ret3
        exact tok_ok HRE.out rfl (by rw [← HB.out]; exact K2.out) (by rw [← HB.out]; exact K4.out)

end Go.Proofs.YtnajafnbickiiaaDoor
